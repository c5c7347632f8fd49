package world_test

import (
	"fmt"
	"math"
	"slices"
	"strings"
	"testing"

	"cabal/api"
	"cabal/foe"
	"cabal/frame"
	"cabal/graph"
	"cabal/member"
	"cabal/suite"
	"cabal/world"
)

func mustNew(t *testing.T, p api.Place, real bool) *world.World {
	t.Helper()
	w, e := world.New(p, real)
	if e != api.OK {
		t.Fatalf("New: %d", e)
	}
	return w
}

func step(who int, in api.Input) api.Act {
	return api.Act{Kind: api.ActStep, Who: who, In: in}
}
func create(who ...int) api.Input { return api.Input{Kind: api.InCreate, Who: who} }
func add(who int) api.Input       { return api.Input{Kind: api.InAdd, Who: []int{who}} }
func remove(who int) api.Input    { return api.Input{Kind: api.InRemove, Who: []int{who}} }
func say(text string) api.Input   { return api.Input{Kind: api.InSay, Text: text} }
func update() api.Input           { return api.Input{Kind: api.InUpdate} }
func tick() api.Input             { return api.Input{Kind: api.InTick} }

// do checks what an act returns.
func do(t *testing.T, w *world.World, a api.Act, want api.Errno) {
	t.Helper()
	if e := w.Do(a); e != want {
		t.Errorf("act %d of %d: %d, not %d", a.Kind, a.Who, e, want)
	}
}

func stateOf(w *world.World, who int) api.Member {
	s, _ := w.Member(who)
	return s
}

func TestP25_1New(t *testing.T) {
	for _, p := range []api.Place{{Members: 0, Relays: 1, Blocks: 200}, {Members: 9, Relays: 1, Blocks: 200}, {Members: -1, Relays: 1, Blocks: 200}, {Members: 2, Relays: 0, Blocks: 200}, {Members: 2, Relays: 5, Blocks: 200}, {Members: 2, Relays: -1, Blocks: 200}, {Members: 2, Relays: 1, Blocks: 2}, {Members: 2, Relays: 1, Blocks: -5}} {
		if w, e := world.New(p, false); w != nil || e != api.ErrArg {
			t.Errorf("%v: %d", p, e)
		}
	}
	if w, e := world.New(api.Place{Members: 2, Relays: 1, Blocks: 5}, false); w != nil || e != api.ErrFull {
		t.Errorf("a small disk: %d", e)
	}
	for _, real := range []bool{true, false} {
		w := mustNew(t, api.Place{Members: 8, Relays: 4, Blocks: 5000}, real)
		var k suite.Kit = suite.Real{}
		if !real {
			k = w.Free()
		}
		var ids, pres [8]api.Key
		for i := range 8 {
			ids[i], pres[i] = k.Pub(k.Draw(fmt.Sprint("id ", i))), k.Pub(k.Draw(fmt.Sprint("pre ", i)))
		}
		for i := range 8 {
			s, up := w.Member(i)
			want, _ := member.New(k, i, 8, k.Draw(fmt.Sprint("id ", i)), k.Draw(fmt.Sprint("pre ", i)), ids, pres)
			if !up || !member.Same(s, want) {
				t.Errorf("member %d, real: %v", i, real)
			}
		}
		if len(w.Said())+len(w.Leaks())+len(w.Composed())+len(w.Frames())+len(w.Made())+len(w.Mail(0, 0)) != 0 {
			t.Error("something happened")
		}
	}
}

func TestP25_1NilWorld(t *testing.T) {
	var w *world.World
	w.Calm(3)
	s, up := w.Member(0)
	if w.Do(step(0, tick())) != api.ErrArg || w.Do(api.Act{Kind: api.ActCook}) != api.ErrArg || up || !member.Same(s, api.Member{}) || w.Free() != (suite.Free{}) {
		t.Error("a nil world")
	}
	if len(w.Said())+len(w.Leaks())+len(w.Composed())+len(w.Frames())+len(w.Made())+len(w.Mail(0, 0)) != 0 || w.Follows()(api.Key{}) {
		t.Error("a nil world has something")
	}
}

func TestP25_2Example(t *testing.T) {
	for _, real := range []bool{false, true} {
		w := mustNew(t, api.Place{Members: 2, Relays: 1, Blocks: 200}, real)
		do(t, w, step(0, create(0, 1)), api.OK)
		w.Calm(2)
		do(t, w, step(1, say("hello")), api.OK)
		w.Calm(2)
		if s := stateOf(w, 0); len(s.Inbox) != 1 || s.Inbox[0].Text != "hello" || s.Inbox[0].Author != 1 {
			t.Errorf("real: %v, inbox %v", real, s.Inbox)
		}
	}
}

func TestP25_2Errors(t *testing.T) {
	w := mustNew(t, api.Place{Members: 3, Relays: 2, Blocks: 200}, false)
	do(t, w, step(0, create(0, 1)), api.OK)
	do(t, w, api.Act{Kind: api.ActCrash, Who: 1}, api.OK)
	have := api.Frame{Kind: api.FrameHave, From: 1}
	for kind := api.ActStep; kind <= api.ActReplay; kind++ {
		for _, who := range []int{-1, 3, math.MaxInt, math.MinInt} {
			want := api.ErrNone
			if kind == api.ActCook {
				want = api.OK
			}
			do(t, w, api.Act{Kind: kind, Who: who, In: tick(), Relay: 9, N: 9}, want)
		}
	}
	for _, kind := range []int{0, 13, -1, math.MaxInt} {
		do(t, w, api.Act{Kind: kind, Who: 9}, api.ErrArg)
	}
	for _, x := range []struct {
		a api.Act
		e api.Errno
	}{
		{step(1, tick()), api.ErrDead}, {step(1, api.Input{Kind: api.InTake}), api.ErrDead}, {api.Act{Kind: api.ActFetch, Who: 1, Relay: 9}, api.ErrDead}, {api.Act{Kind: api.ActCrash, Who: 1}, api.ErrDead},
		{api.Act{Kind: api.ActLeak, Who: 1}, api.ErrDead}, {api.Act{Kind: api.ActForge, Who: 1}, api.ErrDead}, {api.Act{Kind: api.ActReplay, Who: 1, N: 99}, api.ErrDead},
		{step(0, api.Input{Kind: api.InTake, Frame: have}), api.ErrArg}, {step(0, api.Input{Kind: 99}), api.ErrArg}, {step(0, create(0)), api.ErrThere}, {step(2, say("t")), api.ErrArg},
		{api.Act{Kind: api.ActFetch, Relay: 2}, api.ErrNone}, {api.Act{Kind: api.ActFetch, Relay: -1}, api.ErrNone}, {api.Act{Kind: api.ActFetch, N: 0}, api.ErrNone}, {api.Act{Kind: api.ActFetch, N: -1}, api.ErrNone},
		{api.Act{Kind: api.ActDrop, Relay: 2}, api.ErrNone}, {api.Act{Kind: api.ActDouble, Relay: -1}, api.ErrNone}, {api.Act{Kind: api.ActMove, Relay: 5}, api.ErrNone},
		{api.Act{Kind: api.ActDrop, Who: 1, N: 1}, api.ErrNone}, {api.Act{Kind: api.ActDouble, Who: 1, N: 1}, api.ErrNone}, {api.Act{Kind: api.ActMove, Who: 1, N: 1}, api.ErrNone}, {api.Act{Kind: api.ActMove, Who: 1, N: -1}, api.ErrNone},
		{api.Act{Kind: api.ActStart, Who: 0}, api.ErrThere}, {api.Act{Kind: api.ActForge, Who: 0}, api.ErrArg}, {api.Act{Kind: api.ActForge, Who: 0, Frame: api.Frame{Kind: api.FrameHave, From: 8}}, api.ErrArg},
		{api.Act{Kind: api.ActReplay, Who: 0, N: 1}, api.ErrNone}, {api.Act{Kind: api.ActReplay, Who: 0, N: -1}, api.ErrNone}, {api.Act{Kind: api.ActFuse, Who: 1, N: 3}, api.OK}, {api.Act{Kind: api.ActStart, Who: 1}, api.OK},
	} {
		do(t, w, x.a, x.e)
	}
	r := mustNew(t, api.Place{Members: 3, Relays: 2, Blocks: 200}, true)
	do(t, r, api.Act{Kind: api.ActCrash, Who: 1}, api.OK)
	for _, kind := range []int{api.ActLeak, api.ActForge} {
		do(t, r, api.Act{Kind: kind, Who: 0, Frame: have}, api.ErrArg)
		do(t, r, api.Act{Kind: kind, Who: 1, Frame: have}, api.ErrDead)
		do(t, r, api.Act{Kind: kind, Who: 3, Frame: have}, api.ErrNone)
	}
	do(t, r, api.Act{Kind: api.ActCook, Who: 3, Cook: api.Cook{Kind: api.CookDraw}}, api.ErrArg)
	if len(r.Leaks())+len(r.Made()) != 0 || r.Follows()(api.Key{}) {
		t.Error("a real world has a stranger")
	}
}

func TestP25_2Mail(t *testing.T) {
	w := mustNew(t, api.Place{Members: 3, Relays: 2, Blocks: 400}, false)
	do(t, w, step(0, create(0, 1, 2)), api.OK)
	do(t, w, step(0, update()), api.OK)
	do(t, w, step(0, say("hello")), api.OK)
	frames := w.Frames()
	var mail [2][3][]string
	if len(frames) != 6 {
		t.Fatalf("%d frames", len(frames))
	}
	for n, s := range frames { // 1 and 2 in turns
		to := 1 + n%2
		mail[n%2][to] = append(mail[n%2][to], s)
		if f, e := frame.Read(s); e != api.OK || f.From != 0 || !slices.ContainsFunc(f.Op.Boxes, func(b api.Box) bool { return b.To == to }) {
			t.Errorf("frame %d: %d", n, e)
		}
	}
	check := func() {
		t.Helper()
		for r := range 2 {
			for who := range 3 {
				if got := w.Mail(r, who); !slices.Equal(got, mail[r][who]) {
					t.Errorf("relay %d, member %d: %d frames", r, who, len(got))
				}
			}
		}
	}
	check()
	l := mail[0][1]
	do(t, w, api.Act{Kind: api.ActMove, Who: 1, Relay: 0, N: 2}, api.OK)
	mail[0][1] = []string{l[2], l[0], l[1]}
	check()
	do(t, w, api.Act{Kind: api.ActDouble, Who: 1, Relay: 0, N: 1}, api.OK)
	mail[0][1] = []string{l[2], l[0], l[1], l[0]}
	check()
	do(t, w, api.Act{Kind: api.ActDrop, Who: 1, Relay: 0, N: 2}, api.OK)
	mail[0][1] = []string{l[2], l[0], l[0]}
	check()
	want, posts, _ := member.Do(w.Free(), stateOf(w, 1), takes(t, l[0]))
	do(t, w, api.Act{Kind: api.ActFetch, Who: 1, Relay: 0, N: 1}, api.OK)
	mail[0][1] = []string{l[2], l[0]}
	for n, p := range posts {
		s, _ := frame.Write(p.Frame)
		mail[(6+n)%2][p.To] = append(mail[(6+n)%2][p.To], s)
	}
	check()
	if !member.Same(stateOf(w, 1), want) {
		t.Error("what was fetched did not come")
	}
	do(t, w, api.Act{Kind: api.ActFetch, Who: 1, Relay: 0, N: 1}, api.ErrOld)
	mail[0][1] = []string{l[2]}
	check()
	if len(w.Mail(-1, 0))+len(w.Mail(2, 0))+len(w.Mail(0, -1))+len(w.Mail(0, 8)) != 0 {
		t.Error("mail where there is none")
	}
}

// takes is the input by which a frame comes.
func takes(t *testing.T, s string) api.Input {
	t.Helper()
	f, e := frame.Read(s)
	if e != api.OK {
		t.Fatal(e)
	}
	return api.Input{Kind: api.InTake, Frame: f}
}

func TestP25_2Crashes(t *testing.T) {
	w := mustNew(t, api.Place{Members: 2, Relays: 1, Blocks: 200}, false)
	do(t, w, step(0, create(0, 1)), api.OK)
	before := stateOf(w, 0)
	do(t, w, api.Act{Kind: api.ActCrash, Who: 0}, api.OK)
	if s, up := w.Member(0); up || !member.Same(s, before) {
		t.Error("what a member had when it fell")
	}
	do(t, w, api.Act{Kind: api.ActStart, Who: 0}, api.OK)
	if s, up := w.Member(0); !up || !member.Same(s, before) {
		t.Error("a member that starts again")
	}
	for n := range 4 {
		for keep := range 3 { // of the journal's block and of the mark
			frames, composed := len(w.Frames()), len(w.Composed())
			before = stateOf(w, 0)
			next, _, _ := member.Do(w.Free(), before, update())
			do(t, w, api.Act{Kind: api.ActFuse, Who: 0, N: n}, api.OK)
			do(t, w, step(0, update()), api.ErrDead)
			if s, up := w.Member(0); up || !member.Same(s, before) || len(w.Frames()) != frames || len(w.Composed()) != composed {
				t.Fatalf("fuse %d: a step that fails", n)
			}
			do(t, w, step(0, tick()), api.ErrDead)
			do(t, w, api.Act{Kind: api.ActStart, Who: 0, Keep: []uint8{4, 4}[:keep]}, api.OK)
			s, up := w.Member(0)
			kept := n >= 2 && keep > 0 // the mark is all that is unsynced behind the second step
			if want := map[bool]api.Member{true: next, false: before}[kept]; !up || !member.Same(s, want) {
				t.Fatalf("fuse %d, keep %d: another member", n, keep)
			}
			own := w.Composed()[composed:]
			if kept && (len(own) != 1 || own[0].Id != next.Nodes[len(next.Nodes)-1].Id || len(own[0].Past) != 0) || !kept && len(own) != 0 {
				t.Fatalf("fuse %d, keep %d: %d operations are composed", n, keep, len(own))
			}
		}
	}
}

func TestP25_2FailsWhileItComes(t *testing.T) {
	w := mustNew(t, api.Place{Members: 2, Relays: 1, Blocks: 200}, false)
	do(t, w, step(0, create(0, 1)), api.OK)
	do(t, w, api.Act{Kind: api.ActFuse, Who: 1, N: 1}, api.OK)
	do(t, w, api.Act{Kind: api.ActFetch, Who: 1}, api.ErrDead)
	if s, up := w.Member(1); up || len(s.Nodes) != 0 || len(w.Mail(0, 1)) != 0 {
		t.Error("a disk that fails while a frame comes")
	}
	w.Calm(2)
	if s, up := w.Member(1); !up || len(s.Nodes) != 2 {
		t.Error("it is not there behind a calm")
	}
}

func TestP25_2Stranger(t *testing.T) {
	w := mustNew(t, api.Place{Members: 3, Relays: 2, Blocks: 400}, false)
	k := w.Free()
	var seen []api.Key
	for i := range 3 {
		seen = append(seen, k.Pub(k.Draw(fmt.Sprint("id ", i))), k.Pub(k.Draw(fmt.Sprint("pre ", i))))
	}
	var made []api.Key
	cook := func(c api.Cook) {
		t.Helper()
		do(t, w, api.Act{Kind: api.ActCook, Who: 77, Cook: c}, api.OK)
		made = foe.More(k, seen, made, c)
		if !slices.Equal(w.Made(), made) {
			t.Fatalf("it made %d keys, not %d", len(w.Made()), len(made))
		}
	}
	follows := func() {
		t.Helper()
		got, want := w.Follows(), k.Follow(slices.Concat(seen, made)...)
		for n := range k.Len() + 2 {
			name := api.Key{'t', 'e', 'r', 'm', 0, byte(n >> 16), byte(n >> 8), byte(n)}
			if got(name) != want(name) {
				t.Fatalf("the term %d: %v", n, got(name))
			}
		}
	}
	posted := 0
	post := func() {
		t.Helper()
		for _, s := range w.Frames()[posted:] {
			f, _ := frame.Read(s)
			seen = append(seen, foe.Keys(k, f)...)
			posted++
		}
	}
	for i := range 7 {
		cook(api.Cook{Kind: api.CookSeen, N: i})
	}
	cook(api.Cook{Kind: api.CookDraw, Text: "x"})
	follows()
	do(t, w, step(0, create(0, 1, 2)), api.OK)
	post()
	for i := range 4 {
		cook(api.Cook{Kind: api.CookSeen, N: 6 + i})
	}
	w.Calm(1)
	post()
	follows()
	do(t, w, api.Act{Kind: api.ActLeak, Who: 1}, api.OK)
	seen = append(seen, member.Keys(stateOf(w, 1))...)
	cook(api.Cook{Kind: api.CookSeen, N: len(seen) - 1})
	follows()
	do(t, w, step(0, say("t")), api.OK)
	post()
	cook(api.Cook{Kind: api.CookSeen, N: len(seen) - 1})
	follows()
}

func TestP25_2Forge(t *testing.T) {
	w := mustNew(t, api.Place{Members: 3, Relays: 1, Blocks: 400}, false)
	k := w.Free()
	do(t, w, step(0, create(0, 1, 2)), api.OK)
	w.Calm(2)
	head := graph.Heads(stateOf(w, 0).Nodes)[0]
	unseen := stateOf(w, 0).Keys.Ratchets[0].Key
	forge := func(ids ...api.Key) api.Act {
		return api.Act{Kind: api.ActForge, Who: 1, Frame: api.Frame{Kind: api.FrameWant, From: 0, Ids: ids}}
	}
	frames := len(w.Frames())
	do(t, w, forge(), api.OK)
	do(t, w, forge(head, api.Key{7}), api.OK)
	if len(w.Frames()) != frames+1 {
		t.Errorf("%d frames are posted", len(w.Frames())-frames)
	}
	do(t, w, forge(head, unseen), api.ErrStranger)
	do(t, w, api.Act{Kind: api.ActForge, Who: 1, Frame: api.Frame{Kind: api.FrameHave, From: 1}}, api.ErrArg)
	do(t, w, api.Act{Kind: api.ActForge, Who: 1, Frame: api.Frame{Kind: api.FrameHave, From: 7}}, api.ErrArg)
	do(t, w, api.Act{Kind: api.ActForge, Who: 1, Frame: api.Frame{Kind: api.FrameHave, From: 9, Ids: []api.Key{unseen}}}, api.ErrArg)
	do(t, w, api.Act{Kind: api.ActForge, Who: 1, Frame: api.Frame{Kind: api.FrameHave, From: 7, Ids: []api.Key{unseen}}}, api.ErrStranger)
	last := stateOf(w, 0).Nodes[2].Op
	replayed := api.Act{Kind: api.ActForge, Who: 0, Frame: api.Frame{Kind: api.FrameOp, From: 2, Op: last}}
	do(t, w, replayed, api.ErrOld)
	replayed.Frame.Op.Boxes = []api.Box{{To: 0, Body: "a body that is no box"}} // its mark is a term by then
	do(t, w, replayed, api.ErrOld)
	replayed.Frame.Op.Boxes = []api.Box{{To: 0, Body: string(unseen[:])}}
	do(t, w, replayed, api.ErrStranger)
	replayed.Frame.Op.Boxes = []api.Box{{To: 0, Head: api.Head{Pub: unseen}}}
	do(t, w, replayed, api.ErrStranger)
	do(t, w, api.Act{Kind: api.ActLeak, Who: 1}, api.OK)
	do(t, w, replayed, api.ErrOld)
	if k.Len() == 0 || len(w.Frames()) != frames+1 {
		t.Error("forged frames are posted")
	}
	do(t, w, api.Act{Kind: api.ActReplay, Who: 1, N: 0}, api.ErrOld)
	do(t, w, api.Act{Kind: api.ActReplay, Who: 2, N: 0}, api.ErrOld)
	do(t, w, api.Act{Kind: api.ActReplay, Who: 0, N: 0}, api.ErrArg) // it says that it is from 0
}

func TestP25_2Records(t *testing.T) {
	w := mustNew(t, api.Place{Members: 3, Relays: 2, Blocks: 300}, false)
	acts := 0
	next := func(a api.Act, want api.Errno) {
		t.Helper()
		acts++
		do(t, w, a, want)
	}
	next(api.Act{Kind: 99}, api.ErrArg)
	next(step(0, say("too early")), api.ErrArg)
	next(step(0, create(0, 1)), api.OK)
	next(step(0, say("first")), api.OK)
	next(api.Act{Kind: api.ActLeak, Who: 2}, api.OK)
	next(step(9, say("nobody")), api.ErrNone)
	next(step(0, say("second")), api.OK)
	next(api.Act{Kind: api.ActFuse, Who: 0}, api.OK)
	next(step(0, say("lost")), api.ErrDead)
	next(api.Act{Kind: api.ActLeak, Who: 0}, api.ErrDead)
	next(api.Act{Kind: api.ActLeak, Who: 1}, api.OK)
	s := stateOf(w, 0)
	if got, want := w.Said(), []api.Said{{Id: s.Nodes[1].Id, Text: "first", At: 4}, {Id: s.Nodes[2].Id, Text: "second", At: 7}}; !slices.Equal(got, want) {
		t.Errorf("Said: %v, not %v", got, want)
	}
	if got, want := w.Leaks(), []api.Leak{{Who: 2, At: 5}, {Who: 1, At: acts}}; !slices.Equal(got, want) {
		t.Errorf("Leaks: %v, not %v", got, want)
	}
	want := slices.Clone(s.Nodes)
	for i := range want {
		want[i].Past = nil
	}
	if !graph.Same(w.Composed(), want) {
		t.Errorf("Composed: %d operations", len(w.Composed()))
	}
	next(api.Act{Kind: api.ActFetch, Who: 1, Relay: 0}, api.OK)
	own := stateOf(w, 1).Nodes[1]
	if got := w.Composed(); len(got) != 4 || got[3].Id != own.Id || got[3].Op.Kind != api.OpAck {
		t.Errorf("Composed: %d operations", len(got))
	}
	said, composed, frames := w.Said(), w.Composed(), w.Frames()
	said[0].Text, composed[0].Op.Who[0], frames[0] = "changed", 77, "changed"
	if w.Said()[0].Text != "first" || w.Composed()[0].Op.Who[0] != 0 || w.Frames()[0] == "changed" {
		t.Error("a result shares the world's memory")
	}
}

func TestP25_3Calm(t *testing.T) {
	w, twin := mustNew(t, api.Place{Members: 4, Relays: 3, Blocks: 400}, false), mustNew(t, api.Place{Members: 4, Relays: 3, Blocks: 400}, false)
	for _, x := range []*world.World{w, twin} {
		do(t, x, step(0, create(0, 1, 2)), api.OK)
		do(t, x, api.Act{Kind: api.ActFuse, Who: 2, N: 0}, api.OK)
		do(t, x, api.Act{Kind: api.ActFuse, Who: 0, N: 3}, api.OK)
		do(t, x, api.Act{Kind: api.ActCrash, Who: 1}, api.OK)
	}
	w.Calm(2)
	for range 2 { // the same by hand
		for who := range 4 {
			do(t, twin, api.Act{Kind: api.ActFuse, Who: who, N: -1}, api.OK)
		}
		for who := range 4 {
			if _, up := twin.Member(who); !up {
				do(t, twin, api.Act{Kind: api.ActStart, Who: who}, api.OK)
			}
		}
		for who := range 4 {
			do(t, twin, step(who, tick()), api.OK)
			fetchAll(twin, 4, 3, 500)
		}
	}
	if !slices.Equal(w.Frames(), twin.Frames()) {
		t.Error("other frames")
	}
	for who := range 4 {
		s, up := w.Member(who)
		if !up || !member.Same(s, stateOf(twin, who)) {
			t.Errorf("member %d is another one", who)
		}
		if len(w.Mail(0, who))+len(w.Mail(1, who))+len(w.Mail(2, who)) > 0 {
			t.Error("there is mail left")
		}
	}
	frames := len(w.Frames())
	for _, n := range []int{0, -1, math.MinInt} {
		w.Calm(n)
	}
	if len(w.Frames()) != frames {
		t.Error("no rounds do something")
	}
}

// fetchAll fetches the first frame of the first member with mail at the first relay, as often as it may be; it tells whether that was enough.
func fetchAll(w *world.World, members, relays, most int) bool {
	for range most {
		who, relay := 0, 0
		for who < members && len(w.Mail(relay, who)) == 0 {
			if relay++; relay == relays {
				who, relay = who+1, 0
			}
		}
		if who == members {
			return true
		}
		w.Do(api.Act{Kind: api.ActFetch, Who: who, Relay: relay})
	}
	return false
}

func TestP25_3CalmWithMuchMail(t *testing.T) {
	p := api.Place{Members: 8, Relays: 4, Blocks: 1024}
	w, twin, free := mustNew(t, p, false), mustNew(t, p, false), mustNew(t, p, false)
	for _, x := range []*world.World{w, twin, free} {
		do(t, x, step(0, create(0, 1, 2, 3, 4, 5, 6, 7)), api.OK)
		for range 100 {
			do(t, x, step(0, tick()), api.OK)
		}
	}
	w.Calm(1)
	enough := true
	for who := range 8 {
		do(t, twin, step(who, tick()), api.OK)
		enough = fetchAll(twin, 8, 4, 500) && enough
		do(t, free, step(who, tick()), api.OK)
		fetchAll(free, 8, 4, 100000)
	}
	if enough || slices.Equal(twin.Frames(), free.Frames()) {
		t.Fatal("a test's mail is too little")
	}
	if !slices.Equal(w.Frames(), twin.Frames()) {
		t.Error("other frames than with 500 fetches at once")
	}
}

func TestP25_3Acts(t *testing.T) {
	w := mustNew(t, api.Place{Members: 2, Relays: 1, Blocks: 200}, false)
	do(t, w, step(0, create(0)), api.OK) // act 1
	w.Calm(1)                            // two ticks
	do(t, w, api.Act{Kind: api.ActLeak}, api.OK)
	w.Calm(61) // 60 rounds of two ticks
	do(t, w, api.Act{Kind: api.ActLeak}, api.OK)
	w.Calm(math.MaxInt)
	do(t, w, api.Act{Kind: api.ActCrash}, api.OK)
	w.Calm(1) // a start and two ticks
	do(t, w, api.Act{Kind: api.ActLeak}, api.OK)
	if got, want := w.Leaks(), []api.Leak{{At: 4}, {At: 125}, {At: 250}}; !slices.Equal(got, want) {
		t.Errorf("%v, not %v", got, want)
	}
}

func TestP25_4Member(t *testing.T) {
	for _, real := range []bool{true, false} {
		w := mustNew(t, api.Place{Members: 2, Relays: 1, Blocks: 200}, real)
		for _, who := range []int{-1, 2, math.MaxInt} {
			if s, up := w.Member(who); up || !member.Same(s, api.Member{}) {
				t.Errorf("member %d", who)
			}
		}
		if (w.Free() == suite.Free{}) != real {
			t.Error("Free")
		}
		do(t, w, step(0, create(0, 1)), api.OK)
		s := stateOf(w, 0)
		s.Nodes[0].Op.Who[0] = 77
		if stateOf(w, 0).Nodes[0].Op.Who[0] != 0 {
			t.Error("Member gives away the world's memory")
		}
	}
}

func TestP25_2FullDisk(t *testing.T) {
	w := mustNew(t, api.Place{Members: 1, Relays: 1, Blocks: 31}, false)
	do(t, w, step(0, create(0)), api.OK)
	for range 300 {
		before := stateOf(w, 0)
		e := w.Do(step(0, say(strings.Repeat("x", 64))))
		if e == api.OK {
			continue
		}
		if s, up := w.Member(0); e != api.ErrFull || !up || !member.Same(s, before) {
			t.Errorf("a full disk: %d", e)
		}
		return
	}
	t.Error("the disk is never full")
}
