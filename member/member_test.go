package member_test

import (
	"bytes"
	"fmt"
	"math/rand"
	"slices"
	"strings"
	"testing"

	"cabal/api"
	"cabal/chain"
	"cabal/frame"
	"cabal/graph"
	"cabal/member"
	"cabal/queue"
	"cabal/ratchet"
	"cabal/roster"
	"cabal/secrets"
	"cabal/suite"
)

func kits() []suite.Kit { return []suite.Kit{suite.Real{}, suite.NewFree()} }

// crowd are members, and what is under way between them.
type crowd struct {
	t    *testing.T
	k    suite.Kit
	m    []api.Member
	mail []api.Post
}

func publics(k suite.Kit) (ids, pres [api.MaxMembers]api.Key) {
	for i := range ids {
		ids[i], pres[i] = k.Pub(k.Draw(fmt.Sprint("id ", i))), k.Pub(k.Draw(fmt.Sprint("pre ", i)))
	}
	return ids, pres
}

func newCrowd(t *testing.T, k suite.Kit, n int) *crowd {
	t.Helper()
	c := &crowd{t: t, k: k}
	ids, pres := publics(k)
	for i := range n {
		s, e := member.New(k, i, n, k.Draw(fmt.Sprint("id ", i)), k.Draw(fmt.Sprint("pre ", i)), ids, pres)
		if e != api.OK {
			t.Fatalf("New: %d", e)
		}
		c.m = append(c.m, s)
	}
	return c
}

// try lets a member do something, and checks what holds of every step.
func (c *crowd) try(who int, in api.Input) ([]api.Post, api.Errno) {
	c.t.Helper()
	before := c.m[who]
	next, posts, e := member.Do(c.k, before, in)
	if !member.Right(next) {
		c.t.Fatalf("the input %v leads to a member that may not be", in)
	}
	if e != api.OK && (!member.Same(next, before) || len(posts) > 0) {
		c.t.Fatalf("the input %v has an error, and an effect", in)
	}
	c.m[who] = next
	return posts, e
}

// do lets a member do what it can, and puts its posts under way.
func (c *crowd) do(who int, in api.Input) {
	c.t.Helper()
	posts, e := c.try(who, in)
	if e != api.OK {
		c.t.Fatalf("%d, input %v: %d", who, in, e)
	}
	c.mail = append(c.mail, posts...)
}

func (c *crowd) fails(who int, in api.Input, want api.Errno) {
	c.t.Helper()
	if _, e := c.try(who, in); e != want {
		c.t.Errorf("%d, input %.200v: %d, not %d", who, in, e, want)
	}
}

// settle delivers all that is under way.
func (c *crowd) settle() {
	c.t.Helper()
	for len(c.mail) > 0 {
		p := c.mail[0]
		c.mail = c.mail[1:]
		posts, _ := c.try(p.To, api.Input{Kind: api.InTake, Frame: p.Frame})
		c.mail = append(c.mail, posts...)
	}
}

// calm lets all members tell one another what there is, and delivers all that is under way.
func (c *crowd) calm() {
	c.t.Helper()
	c.settle()
	for range 3 {
		for who := range c.m {
			c.do(who, tick())
			c.settle()
		}
	}
}

func create(who ...int) api.Input { return api.Input{Kind: api.InCreate, Who: who} }
func add(who int) api.Input       { return api.Input{Kind: api.InAdd, Who: []int{who}} }
func remove(who int) api.Input    { return api.Input{Kind: api.InRemove, Who: []int{who}} }
func update() api.Input           { return api.Input{Kind: api.InUpdate} }
func say(text string) api.Input   { return api.Input{Kind: api.InSay, Text: text} }
func tick() api.Input             { return api.Input{Kind: api.InTick} }
func take(f api.Frame) api.Input  { return api.Input{Kind: api.InTake, Frame: f} }

func have(from int, ids ...api.Key) api.Input {
	return take(api.Frame{Kind: api.FrameHave, From: from, Ids: ids})
}

func want(from int, ids ...api.Key) api.Input {
	return take(api.Frame{Kind: api.FrameWant, From: from, Ids: ids})
}

func takeOp(from int, o api.Op) api.Input {
	return take(api.Frame{Kind: api.FrameOp, From: from, Op: o})
}

// started is a crowd whose first members are a group that is settled.
func started(t *testing.T, k suite.Kit, n int, in ...int) *crowd {
	t.Helper()
	c := newCrowd(t, k, n)
	c.do(in[0], create(in...))
	c.settle()
	return c
}

func TestP20_1New(t *testing.T) {
	for _, k := range kits() {
		ids, pres := publics(k)
		for _, n := range []int{1, 2, 8} {
			for me := range n {
				id, pre := k.Draw(fmt.Sprint("id ", me)), k.Draw(fmt.Sprint("pre ", me))
				want := api.Member{Me: me, Members: n, Ids: ids, Pres: pres}
				for other := range n {
					if other != me {
						want.Sessions[other], _ = ratchet.Start(k, me < other, id, pre, ids[other], pres[other])
					}
				}
				if s, e := member.New(k, me, n, id, pre, ids, pres); e != api.OK || !member.Same(s, want) {
					t.Errorf("%d of %d: %d", me, n, e)
				}
			}
		}
		for _, x := range [][2]int{{0, 0}, {0, 9}, {0, -1}, {-1, 3}, {3, 3}, {8, 8}, {4, 3}, {9, 9}} {
			if s, e := member.New(k, x[0], x[1], ids[0], pres[0], ids, pres); e != api.ErrArg || !member.Same(s, api.Member{}) {
				t.Errorf("%d of %d: %d", x[0], x[1], e)
			}
		}
		bad := pres
		bad[2] = api.Key{}
		if s, e := member.New(k, 0, 3, ids[0], pres[0], ids, bad); e != api.ErrPub || !member.Same(s, api.Member{}) {
			t.Errorf("a public key that agrees with nothing: %d", e)
		}
		for _, x := range [][2]int{{0, 2}, {2, 3}} { // of a number that is no member's, or one's own
			if s, e := member.New(k, x[0], x[1], ids[0], pres[0], ids, bad); e != api.OK || s.Pres != bad {
				t.Errorf("a public key that nobody needs: %d", e)
			}
		}
	}
}

// changes are changes of a part of a member, each.
func changes() map[string]func(s *api.Member) {
	return map[string]func(s *api.Member){
		"Me": func(s *api.Member) { s.Me++ }, "Members": func(s *api.Member) { s.Members-- }, "Ids": func(s *api.Member) { s.Ids[7][3]++ }, "Pres": func(s *api.Member) { s.Pres[0][3]++ },
		"Mine": func(s *api.Member) { s.Sessions[1].Mine[0]++ }, "Theirs": func(s *api.Member) { s.Sessions[7].Theirs[0]++ }, "Root": func(s *api.Member) { s.Sessions[1].Root[0]++ },
		"Send": func(s *api.Member) { s.Sessions[1].Send[0]++ }, "Recv": func(s *api.Member) { s.Sessions[1].Recv[0]++ }, "Ns": func(s *api.Member) { s.Sessions[1].Ns++ }, "Nr": func(s *api.Member) { s.Sessions[1].Nr++ },
		"Pn": func(s *api.Member) { s.Sessions[1].Pn++ }, "Turn": func(s *api.Member) { s.Sessions[1].Turn = !s.Sessions[1].Turn }, "Skips": func(s *api.Member) { s.Sessions[1].Skips = make([]api.Skip, 1) },
		"Nodes": func(s *api.Member) { s.Nodes = s.Nodes[1:] }, "Known": func(s *api.Member) { s.Keys.Ratchets[7].Known = true }, "Lost": func(s *api.Member) { s.Keys.Ratchets[7].Lost = true },
		"Key": func(s *api.Member) { s.Keys.Ratchets[0].Key[0]++ }, "Chain": func(s *api.Member) { s.Keys.Ratchets[0].Chain[0]++ }, "Waits": func(s *api.Member) { s.Keys.Waits = append([]api.Wait{{}}, s.Keys.Waits...) },
		"Held": func(s *api.Member) { s.Held = make([]api.Held, 1) }, "Inbox": func(s *api.Member) { s.Inbox = nil }, "Draws": func(s *api.Member) { s.Draws++ },
	}
}

func TestP20_1Same(t *testing.T) {
	c := started(t, suite.NewFree(), 4, 0, 1, 2)
	c.do(0, say("hello"))
	s := c.m[0]
	if !member.Same(s, s) || !member.Same(api.Member{}, api.Member{Nodes: []api.Node{}, Held: []api.Held{}, Inbox: []api.Letter{}}) {
		t.Error("a member is not itself")
	}
	for name, change := range changes() {
		o := s
		change(&o)
		if member.Same(s, o) || member.Same(o, s) {
			t.Errorf("%s does not count", name)
		}
	}
}

func TestP20_1Right(t *testing.T) {
	k := suite.NewFree()
	c := started(t, k, 4, 0, 1, 2)
	good := c.m[0]
	if !member.Right(good) || member.Right(api.Member{}) {
		t.Error("Right")
	}
	held := api.Held{Id: api.Key{1}, Op: good.Nodes[0].Op}
	for name, change := range map[string]func(s *api.Member){
		"Members 0": func(s *api.Member) { s.Members = 0 }, "Members 9": func(s *api.Member) { s.Members = 9 }, "Members -1": func(s *api.Member) { s.Members = -1 }, "Me -1": func(s *api.Member) { s.Me = -1 }, "Me 4": func(s *api.Member) { s.Me = 4 },
		"no graph": func(s *api.Member) { s.Nodes = s.Nodes[1:] }, "no queue": func(s *api.Member) { s.Held = []api.Held{{}} }, "held twice": func(s *api.Member) { s.Held = []api.Held{held, held} },
		"held and a node": func(s *api.Member) { s.Held = []api.Held{{Id: s.Nodes[1].Id, Op: s.Nodes[1].Op}} }, "held and the first node": func(s *api.Member) { s.Held = []api.Held{{Id: s.Nodes[0].Id, Op: s.Nodes[0].Op}} },
	} {
		s := good
		change(&s)
		if member.Right(s) {
			t.Error(name)
		}
		for _, in := range []api.Input{update(), tick(), have(1), {Kind: 99}} {
			if next, posts, e := member.Do(k, s, in); e != api.ErrArg || len(posts) > 0 || !member.Same(next, s) {
				t.Errorf("%s, a step: %d", name, e)
			}
		}
	}
	good.Held = []api.Held{held}
	good.Me = 3
	if !member.Right(good) {
		t.Error("something is held")
	}
}

func TestP20_1Keys(t *testing.T) {
	c := started(t, suite.NewFree(), 4, 0, 1, 2)
	s := c.m[0]
	s.Sessions[1].Skips = []api.Skip{{Pub: api.Key{9}, Key: api.Key{1}}, {Key: api.Key{2}}}
	s.Keys.Waits = []api.Wait{{Of: api.Key{9}, Key: api.Key{3}}, {Key: api.Key{4}}}
	s.Held = []api.Held{{Id: api.Key{9}, Got: []api.Key{{5}, {6}}}, {Got: []api.Key{{7}}}}
	var want []api.Key
	for i, x := range s.Sessions {
		want = append(want, x.Mine, x.Root, x.Send, x.Recv)
		if i == 1 {
			want = append(want, api.Key{1}, api.Key{2})
		}
	}
	for _, r := range s.Keys.Ratchets {
		want = append(want, r.Key, r.Chain)
	}
	want = append(want, api.Key{3}, api.Key{4}, api.Key{5}, api.Key{6}, api.Key{7})
	if got := member.Keys(s); !slices.Equal(got, want) {
		t.Errorf("%x, not %x", got, want)
	}
}

// composed is what a member is and posts when it composed an operation, as the document says, by the layers below.
func composed(t *testing.T, k suite.Kit, s api.Member, kind int, who []int, of api.Node, text string) (api.Member, []api.Post) {
	t.Helper()
	must := func(e api.Errno) {
		t.Helper()
		if e != api.OK {
			t.Fatalf("a layer below: %d", e)
		}
	}
	draw := func(text string) string {
		s.Draws++
		return fmt.Sprintf("%s %d %d", text, s.Me, s.Draws)
	}
	o := api.Op{Author: s.Me, Seq: 1, Parents: graph.Heads(s.Nodes), Kind: kind, Who: who, Of: of.Id, Check: api.Key{1}}
	if kind == api.OpSay {
		o.Check, o.Text = api.Key{}, "x"
	}
	for _, n := range s.Nodes {
		if n.Op.Author == s.Me {
			o.Seq++
		}
	}
	to, e := roster.To(s.Nodes, o)
	must(e)
	for _, x := range to {
		o.Boxes = append(o.Boxes, api.Box{To: x})
	}
	var seed api.Key
	var got []api.Key
	if kind == api.OpCreate || kind == api.OpUpdate || kind == api.OpRemove {
		seed = k.Draw(draw("seed"))
		got = []api.Key{seed}
	}
	before := s.Keys
	if kind == api.OpSay {
		s.Keys, o.Text, e = chain.Seal(k, before, o, text)
	} else {
		o.Check, e = secrets.Check(k, before, s.Me, o, of.Op, got...)
	}
	must(e)
	id := frame.Name(k, o)
	for i, b := range o.Boxes {
		content := secrets.Content(before, o, of.Op, seed, b.To)
		s.Sessions[b.To], o.Boxes[i].Head, o.Boxes[i].Body, e = ratchet.Send(k, s.Sessions[b.To], draw("turn"), id, content...)
		must(e)
	}
	s.Nodes, e = graph.Add(s.Nodes, id, o)
	must(e)
	if kind == api.OpSay {
		s.Inbox = append(slices.Clone(s.Inbox), api.Letter{Id: id, Author: s.Me, Text: text})
	} else {
		s.Keys, e = secrets.Apply(k, before, s.Me, id, o, of.Op, got...)
		must(e)
	}
	var posts []api.Post
	for _, x := range to {
		posts = append(posts, api.Post{To: x, Frame: api.Frame{Kind: api.FrameOp, From: s.Me, Op: o}})
	}
	return s, posts
}

func samePosts(a, b []api.Post) bool {
	return slices.EqualFunc(a, b, func(x, y api.Post) bool { return x.To == y.To && frame.Same(x.Frame, y.Frame) })
}

func TestP20_2Compose(t *testing.T) {
	for _, k := range kits() {
		c := newCrowd(t, k, 5)
		for i, x := range []struct {
			who  int
			in   api.Input
			kind int
			list []int
		}{
			{1, create(3, 1, 0), api.OpCreate, []int{0, 1, 3}}, {0, say("hello"), api.OpSay, nil}, {3, update(), api.OpUpdate, nil}, {0, add(2), api.OpAdd, []int{2}},
			{1, say(strings.Repeat("x", 64)), api.OpSay, nil}, {0, remove(1), api.OpRemove, []int{1}}, {2, say(""), api.OpSay, nil}, {2, api.Input{Kind: api.InUpdate, Who: []int{1, 1}, Text: "t"}, api.OpUpdate, nil},
			{2, api.Input{Kind: api.InSay, Who: []int{0}, Text: "t"}, api.OpSay, nil}, {2, remove(0), api.OpRemove, []int{0}}, {2, add(4), api.OpAdd, []int{4}},
		} {
			wantMember, wantPosts := composed(t, k, c.m[x.who], x.kind, x.list, api.Node{}, x.in.Text)
			posts, e := c.try(x.who, x.in)
			if e != api.OK || !samePosts(posts, wantPosts) || !member.Same(c.m[x.who], wantMember) {
				t.Fatalf("step %d: %d", i, e)
			}
			c.mail = posts
			c.calm()
		}
		alone := newCrowd(t, k, 1)
		alone.do(0, create(0))
		alone.do(0, say("to nobody"))
		alone.do(0, update())
		if len(alone.mail) != 0 || len(alone.m[0].Nodes) != 3 || len(alone.m[0].Inbox) != 1 {
			t.Error("one member alone")
		}
	}
}

func TestP20_2ComposeErrors(t *testing.T) {
	c := newCrowd(t, suite.NewFree(), 4)
	for _, in := range []api.Input{update(), say("t"), add(1), remove(1), {Kind: api.InCreate}, create(1, 2), create(0, 0), create(0, 4), create(0, -1), {Kind: 0}, {Kind: 8}, {Kind: -1}} {
		c.fails(0, in, api.ErrArg)
	}
	c.do(0, create(0, 1, 2))
	c.fails(0, create(0, 1), api.ErrThere)
	c.settle()
	for _, x := range []struct {
		who int
		in  api.Input
		e   api.Errno
	}{
		{0, create(0, 1), api.ErrThere}, {1, create(1), api.ErrThere}, {1, create(0), api.ErrThere}, {0, create(4), api.ErrArg},
		{0, add(4), api.ErrArg}, {0, add(-1), api.ErrArg}, {0, add(0), api.ErrArg}, {0, add(1), api.ErrThere}, {0, api.Input{Kind: api.InAdd, Who: []int{3, 3}}, api.ErrArg}, {0, api.Input{Kind: api.InAdd}, api.ErrArg},
		{0, remove(3), api.ErrNone}, {0, remove(0), api.ErrArg}, {0, remove(4), api.ErrArg}, {0, api.Input{Kind: api.InRemove, Who: []int{1, 2}}, api.ErrArg}, {0, api.Input{Kind: api.InRemove}, api.ErrArg},
		{0, say(strings.Repeat("x", 65)), api.ErrArg},
	} {
		c.fails(x.who, x.in, x.e)
	}
	c.do(0, remove(2))
	c.settle()
	c.fails(0, remove(2), api.ErrNone)
	c.fails(0, add(2), api.ErrThere)
	o := c.m[0].Nodes[len(c.m[0].Nodes)-1].Op // the member that is out takes its removal, when it asks for it
	if o.Author != 1 || o.Kind != api.OpAck {
		t.Fatalf("the last operation is %v", o)
	}
}

func TestP20_2TooManyMembers(t *testing.T) {
	k := suite.NewFree()
	c := newCrowd(t, k, 2)
	for i := range c.m { // the two take one another for two of three
		c.m[i].Members = 3
	}
	three := newCrowd(t, k, 3)
	three.do(0, create(0, 1, 2))
	for _, p := range three.mail {
		if p.To == 1 {
			c.do(1, take(p.Frame))
		}
	}
	c.m[1].Members = 2
	c.fails(1, update(), api.ErrArg)
	c.fails(1, say("t"), api.ErrArg)
}

func TestP20_2UnknownKeys(t *testing.T) {
	k := suite.NewFree()
	c := started(t, k, 3, 0, 1, 2)
	s := c.m[0]
	s.Keys.Ratchets[0] = api.Ratchet{Lost: true}
	for _, in := range []api.Input{update(), say("t"), remove(1)} {
		if next, posts, e := member.Do(k, s, in); e != api.ErrKeys || len(posts) > 0 || !member.Same(next, s) {
			t.Errorf("%v: %d", in, e)
		}
	}
	s = c.m[0]
	s.Sessions[2].Turn, s.Sessions[2].Theirs = true, api.Key{}
	if next, _, e := member.Do(k, s, update()); e != api.ErrPub || !member.Same(next, s) {
		t.Errorf("a session that can't send: %d", e)
	}
}

func TestP20_2Full(t *testing.T) {
	c := newCrowd(t, suite.NewFree(), 1)
	c.do(0, create(0))
	for range api.MaxOps - 1 {
		c.do(0, update())
	}
	c.fails(0, update(), api.ErrFull)
	c.fails(0, say("t"), api.ErrFull)
}

func TestP20_3WrongFrames(t *testing.T) {
	c := started(t, suite.NewFree(), 3, 0, 1, 2)
	o := c.m[0].Nodes[1].Op
	for i, f := range []api.Frame{
		{}, {Kind: 9, From: 1}, {Kind: api.FrameHave, From: 0}, {Kind: api.FrameHave, From: 3}, {Kind: api.FrameHave, From: -1}, {Kind: api.FrameHave, From: 1, Op: o},
		{Kind: api.FrameWant, From: 1, Ids: make([]api.Key, 17)}, {Kind: api.FrameOp, From: 1}, {Kind: api.FrameOp, From: 0, Op: o}, {Kind: api.FrameOp, From: 7, Op: o},
	} {
		if _, e := c.try(0, take(f)); e != api.ErrArg {
			t.Errorf("frame %d: %d", i, e)
		}
	}
}

func TestP20_3HaveAndWant(t *testing.T) {
	c := started(t, suite.NewFree(), 3, 0, 1, 2)
	c.m[2].Held = []api.Held{{Id: api.Key{77}, Op: c.m[2].Nodes[1].Op}}
	s := c.m[2]
	a, b, x, y := s.Nodes[0].Id, s.Nodes[2].Id, api.Key{5}, api.Key{4}
	expect := func(in api.Input, want ...api.Post) {
		t.Helper()
		if posts, e := c.try(2, in); e != api.OK || !samePosts(posts, want) || !member.Same(c.m[2], s) {
			t.Errorf("%v: %d, %v", in, e, posts)
		}
	}
	wants := func(to int, ids ...api.Key) api.Post {
		return api.Post{To: to, Frame: api.Frame{Kind: api.FrameWant, From: 2, Ids: ids}}
	}
	gives := func(to int, o api.Op) api.Post {
		return api.Post{To: to, Frame: api.Frame{Kind: api.FrameOp, From: 2, Op: o}}
	}
	expect(have(0))
	expect(have(0, a, b, api.Key{77}))
	expect(have(1, x, a, y, b), wants(1, x, y))
	expect(have(0, x), wants(0, x))
	expect(want(0))
	expect(want(0, x, y))
	expect(want(1, b, x, a, api.Key{77}, a), gives(1, s.Nodes[2].Op), gives(1, s.Nodes[0].Op), gives(1, s.Held[0].Op), gives(1, s.Nodes[0].Op))
}

// draft is a valid operation that a member may make, for its receivers; its check is not told yet.
func (c *crowd) draft(author, kind int, who ...int) api.Op {
	c.t.Helper()
	s := c.m[author]
	o := api.Op{Author: author, Seq: 1, Parents: graph.Heads(s.Nodes), Kind: kind, Who: who, Check: api.Key{1}}
	for _, n := range s.Nodes {
		if n.Op.Author == author {
			o.Seq++
		}
	}
	switch kind {
	case api.OpSay:
		o.Check = api.Key{}
		_, o.Text, _ = chain.Seal(c.k, s.Keys, o, "crafted")
	case api.OpAck, api.OpAddAck:
		o.Of = s.Nodes[0].Id
	}
	to, _ := roster.To(s.Nodes, o)
	for _, x := range to {
		o.Boxes = append(o.Boxes, api.Box{To: x})
	}
	return o
}

// craft fills the boxes of an operation, as its author can; all boxes have the same.
func (c *crowd) craft(o api.Op, content ...api.Key) api.Op {
	c.t.Helper()
	id := frame.Name(c.k, o)
	o.Boxes = slices.Clone(o.Boxes)
	for i, b := range o.Boxes {
		s := &c.m[o.Author].Sessions[b.To]
		var e api.Errno
		*s, o.Boxes[i].Head, o.Boxes[i].Body, e = ratchet.Send(c.k, *s, fmt.Sprint("craft ", o.Author, b.To, s.Ns, s.Pn, s.Mine), id, content...)
		if e != api.OK {
			c.t.Fatalf("Send: %d", e)
		}
	}
	return o
}

// checked lets an operation have the check that it must have.
func (c *crowd) checked(o, of api.Op, got ...api.Key) api.Op {
	c.t.Helper()
	check, e := secrets.Check(c.k, c.m[o.Author].Keys, o.Author, o, of, got...)
	if e != api.OK {
		c.t.Fatalf("Check: %d", e)
	}
	o.Check = check
	return o
}

// has says whether a member has an operation among its nodes.
func (c *crowd) has(who int, o api.Op) bool {
	return graph.Find(c.m[who].Nodes, frame.Name(c.k, o)) >= 0
}

func TestP20_3OpErrors(t *testing.T) {
	k := suite.NewFree()
	c := newCrowd(t, k, 4)
	c.do(0, create(0, 1, 2))
	first := c.mail
	o := first[0].Frame.Op
	c.fails(3, takeOp(0, o), api.ErrStranger) // it has no box for 3, and isn't wanted
	c.fails(0, takeOp(1, o), api.ErrOld)
	changed := o
	changed.Boxes = slices.Clone(o.Boxes)
	changed.Boxes[0].Body = "other"
	c.fails(1, takeOp(0, changed), api.ErrTag)
	changed.Boxes[0].Body, changed.Boxes[0].Head.Pub = o.Boxes[0].Body, api.Key{}
	c.fails(1, takeOp(0, changed), api.ErrPub)
	changed.Boxes[0].Head = o.Boxes[0].Head
	changed.Check[0]++ // its box is bound to its name
	c.fails(1, takeOp(0, changed), api.ErrTag)
	c.fails(0, takeOp(1, changed), api.ErrStranger) // 0 did not make it
	for _, who := range []int{4, 7} {
		changed.Author, changed.Who = who, []int{0, who}
		c.fails(1, takeOp(0, changed), api.ErrArg)
	}
	c.settle()
	c.fails(1, takeOp(2, o), api.ErrOld)
	late := c.draft(0, api.OpUpdate)
	late.Parents = []api.Key{{1}}
	seed := k.Draw("late")
	late = c.craft(c.checked(late, api.Op{}, seed), seed)
	c.do(1, takeOp(2, late))
	if len(c.m[1].Held) != 1 || !slices.Equal(c.m[1].Held[0].Got, []api.Key{seed}) || c.m[1].Held[0].Id != frame.Name(k, late) {
		t.Errorf("what waits is %v", c.m[1].Held)
	}
	c.fails(1, takeOp(2, late), api.ErrOld)
}

func TestP20_3WantedOfOneself(t *testing.T) {
	k := suite.NewFree()
	c := started(t, k, 3, 0, 1, 2)
	own := c.draft(0, api.OpUpdate) // that 0 did not make
	own.Boxes = []api.Box{{To: 1}}
	late := c.draft(1, api.OpUpdate)
	late.Parents = []api.Key{frame.Name(k, own)}
	c.do(0, takeOp(1, c.craft(late, k.Draw("seed"))))
	if wanted := queue.Wanted(c.m[0].Nodes, c.m[0].Held); !slices.Equal(wanted, late.Parents) {
		t.Fatalf("%x is wanted", wanted)
	}
	c.fails(0, takeOp(1, own), api.ErrStranger)
}

func TestP20_3WantedOfAnOutsider(t *testing.T) {
	k := suite.NewFree()
	c := started(t, k, 4, 0, 1, 2)
	outside := c.draft(0, api.OpUpdate)
	outside.Author, outside.Seq, outside.Boxes = 3, 1, nil
	late := c.draft(1, api.OpUpdate)
	late.Parents = []api.Key{frame.Name(k, outside)}
	c.do(0, takeOp(1, c.craft(late, k.Draw("seed"))))
	before := c.m[0]
	c.do(0, takeOp(1, outside))
	if !member.Same(c.m[0], before) {
		t.Error("an operation of an outsider, for nobody, is applied")
	}
}

func TestP20_3HeldTillItIsFull(t *testing.T) {
	k := suite.NewFree()
	c := started(t, k, 2, 0, 1)
	for i := range api.MaxHeld + 1 {
		o := c.draft(0, api.OpUpdate)
		o.Parents, o.Seq = []api.Key{{1, byte(i)}}, uint32(10+i)
		o = c.craft(o, k.Draw("seed"))
		if i == api.MaxHeld {
			c.fails(1, takeOp(0, o), api.ErrFull)
		} else {
			c.do(1, takeOp(0, o))
		}
	}
}

func TestP20_3Wanted(t *testing.T) {
	k := suite.NewFree()
	c := newCrowd(t, k, 4)
	c.do(0, create(0, 1, 2))
	c.settle()
	n := len(c.m[0].Nodes)
	c.do(0, add(3))
	var forThree []api.Post
	for _, p := range c.mail {
		if p.To == 3 {
			forThree = append(forThree, p)
		}
	}
	c.settle() // 3 holds the add, as it has none of those that are ahead
	if len(c.m[3].Nodes) != 0 || len(c.m[3].Held) < 1 {
		t.Fatalf("%d nodes, %d held", len(c.m[3].Nodes), len(c.m[3].Held))
	}
	for range 20 {
		wanted := queue.Wanted(c.m[3].Nodes, c.m[3].Held)
		if len(wanted) == 0 {
			break
		}
		for _, id := range wanted {
			o := c.m[0].Nodes[graph.Find(c.m[0].Nodes, id)].Op
			c.do(3, takeOp(1, o))
		}
	}
	if len(c.m[3].Held) != 0 || len(c.m[3].Nodes) < n+1 {
		t.Errorf("%d nodes, %d held", len(c.m[3].Nodes), len(c.m[3].Held))
	}
	acks := slices.DeleteFunc(slices.Clone(c.m[3].Nodes), func(n api.Node) bool { return n.Op.Author != 3 })
	if len(acks) != 1 || acks[0].Op.Kind != api.OpAck || acks[0].Op.Of != frame.Name(k, forThree[0].Frame.Op) {
		t.Errorf("the added one does not acknowledge: %v", acks)
	}
}

// takes checks whether a member applies an operation that another one made; in any case nothing stays held.
func (c *crowd) takes(name string, who int, o api.Op, want bool) {
	c.t.Helper()
	before := c.m[who]
	c.do(who, takeOp(o.Author, o))
	if c.has(who, o) != want || len(c.m[who].Held) != 0 {
		c.t.Errorf("%s: it is applied: %v", name, !want)
	}
	s := c.m[who]
	if want {
		return
	}
	s.Sessions = before.Sessions
	if !member.Same(s, before) {
		c.t.Errorf("%s: it has an effect", name)
	}
}

func TestP20_3Applying(t *testing.T) {
	for _, k := range kits() {
		c := started(t, k, 4, 0, 1, 2)
		seed := k.Draw("seed")
		good := c.checked(c.draft(0, api.OpUpdate), api.Op{}, seed)
		less, more := good, good
		less.Boxes = less.Boxes[:1]
		more.Boxes = append(slices.Clone(more.Boxes), api.Box{To: 3})
		seq, check := good, good
		seq.Seq++
		check.Check = api.Key{5}
		again := api.Op{Kind: api.OpCreate, Author: 0, Seq: 1, Who: []int{0, 1}, Check: api.Key{5}, Boxes: []api.Box{{To: 1}}}
		adds, removes := c.draft(0, api.OpAdd, 2), c.draft(0, api.OpRemove, 3)
		adds.Boxes, removes.Boxes = good.Boxes, good.Boxes
		mute := c.draft(0, api.OpSay)
		mute.Text = "no message"
		c.takes("a box too few", 1, c.craft(less, seed), false)
		c.takes("a box too many", 1, c.craft(more, seed), false)
		c.takes("another number", 1, c.craft(seq, seed), false)
		c.takes("another check", 1, c.craft(check, seed), false)
		c.takes("no seed", 1, c.craft(good), false)
		c.takes("another seed", 1, c.craft(good, k.Draw("other")), false)
		c.takes("a second create", 1, c.craft(again, seed), false)
		c.takes("one who is there is added", 1, c.craft(adds, seed), false)
		c.takes("one who is not there is removed", 1, c.craft(removes, seed), false)
		c.takes("a message that can't be opened", 1, c.craft(mute), false)
		c.takes("the update itself", 1, c.craft(good, seed), true)
		said := started(t, k, 4, 0, 1, 2)
		o := said.craft(said.draft(0, api.OpSay))
		said.takes("a message", 1, o, true)
		if l := said.m[1].Inbox; len(l) != 1 || l[0] != (api.Letter{Id: frame.Name(k, o), Author: 0, Text: "crafted"}) {
			t.Errorf("the inbox is %v", l)
		}
		out := started(t, k, 4, 0, 1, 2)
		late := out.checked(out.draft(2, api.OpUpdate), api.Op{}, seed)
		out.do(0, remove(2))
		out.settle()
		late.Parents = graph.Heads(out.m[0].Nodes)
		late.Boxes = []api.Box{{To: 0}, {To: 1}}
		out.takes("one who is out", 1, out.craft(late, seed), false)
	}
}

// acks is an acknowledgement that a member may make of anything, with a key in place of its wait: only the rules forbid it.
func (c *crowd) acks(author, kind int, of api.Key, ofOp api.Op) api.Op {
	c.t.Helper()
	o := c.draft(author, kind)
	o.Of = of
	key := c.k.Draw("in place of a wait")
	return c.craft(c.checked(o, ofOp, key), key)
}

// nodeBy is the first node of a kind by an author that a member has.
func (c *crowd) nodeBy(who, kind, author int) api.Node {
	c.t.Helper()
	for _, n := range c.m[who].Nodes {
		if n.Op.Kind == kind && n.Op.Author == author {
			return n
		}
	}
	c.t.Fatalf("no node of the kind %d by %d", kind, author)
	return api.Node{}
}

func TestP20_3Acknowledging(t *testing.T) {
	k := suite.NewFree()
	c := newCrowd(t, k, 5)
	c.do(0, create(0, 1, 2))
	c.calm()
	c.do(1, update())
	c.calm()
	c.do(0, say("t"))
	c.calm()
	first, own, ack, said := c.nodeBy(2, api.OpCreate, 0), c.nodeBy(2, api.OpUpdate, 1), c.nodeBy(2, api.OpAck, 1), c.nodeBy(2, api.OpSay, 0)
	c.takes("the same acknowledgement again", 0, c.acks(2, api.OpAck, first.Id, first.Op), false)
	c.takes("of an acknowledgement", 0, c.acks(2, api.OpAck, ack.Id, ack.Op), false)
	c.takes("of a message", 0, c.acks(2, api.OpAck, said.Id, said.Op), false)
	c.takes("of what is not there", 0, c.acks(2, api.OpAck, api.Key{9}, api.Op{}), false)
	c.takes("of one's own operation", 2, c.acks(1, api.OpAck, own.Id, own.Op), false)
	c.takes("of a create, by an OpAddAck", 0, c.acks(2, api.OpAddAck, first.Id, first.Op), false)
	c.takes("of an update, by an OpAddAck", 0, c.acks(2, api.OpAddAck, own.Id, own.Op), false)
}

func TestP20_3AcknowledgingWhatIsNotAhead(t *testing.T) {
	k := suite.NewFree()
	c := started(t, k, 3, 0, 1, 2)
	c.do(0, update())
	posts := c.mail
	c.mail = nil
	c.do(2, take(posts[1].Frame))
	ack := c.mail[0].Frame.Op // by 2, of the update
	c.mail = nil
	apart := ack
	apart.Parents = []api.Key{c.nodeBy(2, api.OpAck, 2).Id} // the update is not in its past
	c.takes("of what is there, but not ahead", 0, c.craft(apart), false)
	c.do(1, take(posts[0].Frame))
	other := c.mail[0].Frame.Op // by 1, of the update
	c.mail = nil
	c.takes("the first acknowledgement", 0, c.craft(other), true)
	behind := ack
	behind.Parents = append([]api.Key{frame.Name(k, other)}, ack.Parents...)
	slices.SortFunc(behind.Parents, func(a, b api.Key) int { return bytes.Compare(a[:], b[:]) })
	c.takes("the second one, behind the first", 0, c.craft(behind), true)
}

func TestP20_3AcknowledgingAdds(t *testing.T) {
	k := suite.NewFree()
	c := started(t, k, 5, 0, 1, 2)
	c.do(0, add(3))
	c.calm()
	added := c.nodeBy(1, api.OpAdd, 0)
	for who, want := range [][]int{{api.OpCreate, api.OpAdd}, {api.OpAck, api.OpAddAck}, {api.OpAck, api.OpAddAck}, {api.OpAck}} {
		for other := range 4 {
			if got := kindsBy(c.m[other], who); !slices.Equal(got, want) {
				t.Errorf("%d has %d by %d, not %d", other, got, who, want)
			}
		}
	}
	c.takes("an OpAck of an add of another member", 0, c.acks(1, api.OpAck, added.Id, added.Op), false)
	c.takes("an OpAddAck again", 0, c.acks(1, api.OpAddAck, added.Id, added.Op), false)
	c.takes("an OpAddAck of one's own add", 1, c.acks(0, api.OpAddAck, added.Id, added.Op), false)
	c.takes("an OpAck of an add, again", 0, c.acks(3, api.OpAck, added.Id, added.Op), false)
	c.takes("an OpAddAck of an add of oneself", 0, c.acks(3, api.OpAddAck, added.Id, added.Op), false)
}

// kindsBy are the kinds of an author's operations that a member has.
func kindsBy(s api.Member, author int) []int {
	var l []int
	for _, n := range s.Nodes {
		if n.Op.Author == author {
			l = append(l, n.Op.Kind)
		}
	}
	return l
}

func TestP20_3Responding(t *testing.T) {
	for _, k := range kits() {
		c := started(t, k, 4, 0, 1, 2)
		steps := func(want map[int][]int) {
			t.Helper()
			for author, kinds := range want {
				if got := kindsBy(c.m[author], author); !slices.Equal(got, kinds) {
					t.Errorf("%d did %d, not %d", author, got, kinds)
				}
			}
		}
		steps(map[int][]int{0: {api.OpCreate}, 1: {api.OpAck}, 2: {api.OpAck}})
		c.do(1, update())
		c.settle()
		steps(map[int][]int{0: {api.OpCreate, api.OpAck}, 1: {api.OpAck, api.OpUpdate}, 2: {api.OpAck, api.OpAck}})
		c.do(1, say("t"))
		c.settle()
		steps(map[int][]int{0: {api.OpCreate, api.OpAck}, 1: {api.OpAck, api.OpUpdate, api.OpSay}, 2: {api.OpAck, api.OpAck}})
		c.do(0, add(3))
		c.settle()
		steps(map[int][]int{0: {api.OpCreate, api.OpAck, api.OpAdd}, 1: {api.OpAck, api.OpUpdate, api.OpSay, api.OpAddAck}, 2: {api.OpAck, api.OpAck, api.OpAddAck}})
		c.do(0, remove(2))
		c.settle()
		steps(map[int][]int{0: {api.OpCreate, api.OpAck, api.OpAdd, api.OpRemove}, 1: {api.OpAck, api.OpUpdate, api.OpSay, api.OpAddAck, api.OpAck}, 2: {api.OpAck, api.OpAck, api.OpAddAck}})
	}
}

// give lets a member take all nodes of another one that it lacks.
func (c *crowd) give(from, to int) {
	c.t.Helper()
	for range 20 {
		wanted := queue.Wanted(c.m[to].Nodes, c.m[to].Held)
		for _, id := range wanted {
			if at := graph.Find(c.m[from].Nodes, id); at >= 0 {
				c.do(to, takeOp(from, c.m[from].Nodes[at].Op))
			}
		}
	}
}

func TestP20_3RemovalOfAnother(t *testing.T) {
	k := suite.NewFree()
	c := started(t, k, 4, 0, 1, 2)
	c.do(0, add(3))
	adding := c.mail
	c.mail = nil
	c.do(1, remove(2)) // at the same time: 3 has no box of it
	removing := c.mail
	c.mail = append(adding, removing...)
	c.settle()
	removal := frame.Name(k, removing[0].Frame.Op)
	c.do(0, say("behind both"))
	for _, p := range c.mail {
		if p.To == 3 {
			c.do(3, take(p.Frame))
		}
	}
	c.mail = nil
	c.give(0, 3)
	at := graph.Find(c.m[3].Nodes, removal)
	if at < 0 {
		t.Fatalf("3 does not have the removal: %v", kindsBy(c.m[3], 1))
	}
	if got := kindsBy(c.m[3], 3); !slices.Equal(got, []int{api.OpAck, api.OpUpdate}) && !slices.Equal(got, []int{api.OpUpdate, api.OpAck}) {
		t.Errorf("3 did %d", got)
	}
	// The one who is out may have its removal, too: it composes nothing, and draws nothing.
	out := c.m[2]
	o := c.m[0].Nodes[graph.Find(c.m[0].Nodes, removal)].Op
	late := c.draft(0, api.OpSay)
	late.Boxes = append(late.Boxes, api.Box{To: 2})
	slices.SortFunc(late.Boxes, func(a, b api.Box) int { return a.To - b.To })
	c.do(2, takeOp(0, c.craft(late))) // it names others, that 2 wants now
	for _, n := range c.m[0].Nodes {
		if slices.Contains(queue.Wanted(c.m[2].Nodes, c.m[2].Held), n.Id) {
			c.do(2, takeOp(0, n.Op))
		}
	}
	c.give(0, 2)
	if !c.has(2, o) || c.m[2].Draws != out.Draws || !slices.Equal(kindsBy(c.m[2], 2), kindsBy(out, 2)) {
		t.Errorf("the one who is out: it has its removal: %v; it did %d", c.has(2, o), kindsBy(c.m[2], 2))
	}
}

func TestP20_3AddOfAnother(t *testing.T) {
	k := suite.NewFree()
	c := started(t, k, 5, 0, 1, 2)
	c.do(0, add(3))
	adding := c.mail
	c.mail = nil
	c.do(1, add(4)) // at the same time: 3 has no box of it
	other := c.mail[0].Frame.Op
	c.mail = append(adding, c.mail...)
	c.calm()
	if !c.has(3, other) || !slices.Equal(kindsBy(c.m[3], 3), []int{api.OpAck}) {
		t.Errorf("3 has the other add: %v; it did %d", c.has(3, other), kindsBy(c.m[3], 3))
	}
}

func TestP20_4Tick(t *testing.T) {
	k := suite.NewFree()
	c := newCrowd(t, k, 5)
	expect := func(who int, want ...api.Post) {
		t.Helper()
		before := c.m[who]
		if posts, e := c.try(who, tick()); e != api.OK || !samePosts(posts, want) || !member.Same(c.m[who], before) {
			t.Errorf("%d: %d, %v, not %v", who, e, posts, want)
		}
	}
	tells := func(kind, from, to int, ids []api.Key) api.Post {
		return api.Post{To: to, Frame: api.Frame{Kind: kind, From: from, Ids: ids}}
	}
	expect(0)
	c.do(1, create(0, 1, 3))
	heads := graph.Heads(c.m[1].Nodes)
	expect(1, tells(api.FrameHave, 1, 0, heads), tells(api.FrameHave, 1, 3, heads))
	c.settle()
	heads = graph.Heads(c.m[3].Nodes)
	expect(3, tells(api.FrameHave, 3, 0, heads), tells(api.FrameHave, 3, 1, heads))
	o := c.draft(1, api.OpUpdate)
	o.Parents = []api.Key{{1}, {2}}
	c.do(3, takeOp(0, c.craft(o, api.Key{3})))
	expect(3, tells(api.FrameHave, 3, 0, heads), tells(api.FrameHave, 3, 1, heads), tells(api.FrameWant, 3, 0, o.Parents), tells(api.FrameWant, 3, 1, o.Parents))
	// One who has no nodes asks the authors of what it holds, for no more than 16.
	var parents []api.Key
	for i := range 3 {
		o := c.draft(1, api.OpUpdate)
		o.Author, o.Boxes, o.Parents = []int{3, 1, 3}[i], []api.Box{{To: 4}}, nil
		for j := range 8 {
			o.Parents = append(o.Parents, api.Key{byte(10*i + j + 1)})
		}
		parents = append(parents, o.Parents...)
		c.do(4, takeOp(0, c.craft(o, api.Key{3})))
	}
	expect(4, tells(api.FrameWant, 4, 1, parents[:16]), tells(api.FrameWant, 4, 3, parents[:16]))
}

// consistent checks what holds of any member's nodes and messages.
func consistent(t *testing.T, s api.Member) {
	t.Helper()
	if !graph.Right(s.Nodes) {
		t.Fatal("a graph that may not be")
	}
	var said []api.Key
	for _, n := range s.Nodes {
		mine := n.Op.Author == s.Me || slices.ContainsFunc(n.Op.Boxes, func(b api.Box) bool { return b.To == s.Me })
		if n.Op.Kind == api.OpSay && mine {
			said = append(said, n.Id)
		}
	}
	var had []api.Key
	for _, l := range s.Inbox {
		had = append(had, l.Id)
	}
	if !slices.Equal(said, had) {
		t.Fatalf("%d messages are applied, %d are in the inbox", len(said), len(had))
	}
}

func TestP20_5And6AnySteps(t *testing.T) {
	r := rand.New(rand.NewSource(1))
	for round := range 12 {
		n := 2 + r.Intn(4)
		var k suite.Kit = suite.NewFree()
		if round == 0 {
			k = suite.Real{}
		}
		c := newCrowd(t, k, n)
		group := []int{0}
		for who := 1; who < n; who++ {
			if r.Intn(3) > 0 {
				group = append(group, who)
			}
		}
		c.do(0, create(group...))
		for range 250 {
			who := r.Intn(n)
			var in api.Input
			switch x := r.Intn(30); {
			case x == 0:
				in = add(r.Intn(n))
			case x == 1:
				in = remove(r.Intn(n))
			case x == 2:
				in = update()
			case x == 3:
				in = say("text")
			case x < 8:
				in = tick()
			case len(c.mail) > 0:
				at := r.Intn(len(c.mail))
				who, in = c.mail[at].To, take(c.mail[at].Frame)
				if r.Intn(8) > 0 {
					c.mail = slices.Delete(c.mail, at, at+1)
				}
			}
			posts, _ := c.try(who, in)
			for _, p := range posts {
				if r.Intn(10) > 0 {
					c.mail = append(c.mail, p)
				}
			}
			consistent(t, c.m[who])
		}
	}
}

func TestP20_2Copies(t *testing.T) {
	c := started(t, suite.NewFree(), 3, 0, 1, 2)
	s := c.m[0]
	s.Inbox = append(make([]api.Letter, 0, 5), api.Letter{Text: "a"})
	who := []int{2}
	next, posts, e := member.Do(c.k, s, api.Input{Kind: api.InSay, Text: "b", Who: who})
	if e != api.OK || s.Inbox[:2][1] != (api.Letter{}) {
		t.Errorf("an argument's spare room is written to, or %d", e)
	}
	next.Inbox[0].Text = "changed"
	next.Nodes[0].Op.Who[0] = 77
	posts[0].Frame.Op.Boxes[0].Body = "changed"
	if s.Inbox[0].Text != "a" || s.Nodes[0].Op.Who[0] != 0 || posts[1].Frame.Op.Boxes[0].Body == "changed" || next.Nodes[len(next.Nodes)-1].Op.Boxes[0].Body == "changed" {
		t.Error("results share memory with arguments, or with one another")
	}
	unchanged, _, _ := member.Do(c.k, s, create(0))
	if unchanged.Nodes[0].Op.Who[0] != 0 {
		t.Error("the unchanged member is another one")
	}
}
