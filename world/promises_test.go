package world_test

import (
	"bytes"
	"fmt"
	"math/rand"
	"slices"
	"testing"

	"cabal/api"

	"cabal/graph"
	"cabal/member"
	"cabal/roster"
	"cabal/suite"
	"cabal/world"
)

// plan says what may happen in a life.
type plan struct {
	place           api.Place
	acts            int
	leaks, forges   bool
	crashes, losses bool
}

// life is a world to which anything happens, with what the promises need to be checked. It is one member that leaks, as often as it may be: two that were removed at the same time may know together what neither of them knows.
type life struct {
	t    *testing.T
	w    *world.World
	r    *rand.Rand
	plan plan
	had  []map[api.Key]int // the nodes that a member had, leak by leak
	next [8]*api.Member    // what a failed step would have led to
	log  []string

	victim, forged int // who leaks; how many forged frames were taken
}

func begin(t *testing.T, seed int64, p plan) *life {
	t.Helper()
	w := mustNew(t, p.place, false)
	r := rand.New(rand.NewSource(seed))
	return &life{t: t, w: w, r: r, plan: p, victim: r.Intn(p.place.Members)}
}

// do lets something happen, and checks what holds of any act (W5).
func (l *life) do(a api.Act) api.Errno {
	l.t.Helper()
	var before [8]api.Member
	var up [8]bool
	for who := range l.plan.place.Members {
		before[who], up[who] = l.w.Member(who)
	}
	in := l.input(a)
	e := l.w.Do(a)
	l.log = append(l.log, fmt.Sprint(a.Kind, a.Who, e))
	for who := range l.plan.place.Members {
		now, isUp := l.w.Member(who)
		same := member.Same(now, before[who])
		switch {
		case who != a.Who && !same:
			l.t.Fatalf("act %v changes the member %d", a, who)
		case who != a.Who || same && isUp == up[who]:
		case up[who] && !isUp && a.Kind != api.ActCrash: // its disk failed
			if !same {
				l.t.Fatal("a step that fails changes something")
			}
			if next, _, f := member.Do(l.w.Free(), now, in); f == api.OK {
				l.next[who] = &next
			}
		case !up[who] && isUp:
			if !same && (l.next[who] == nil || !member.Same(now, *l.next[who])) {
				l.t.Fatal("a member starts as another one")
			}
			l.next[who] = nil
		case e != api.OK && !same:
			l.t.Fatalf("an act with the error %d changes something", e)
		}
	}
	return e
}

// input is what comes to a member by an act.
func (l *life) input(a api.Act) api.Input {
	switch a.Kind {
	case api.ActStep:
		return a.In
	case api.ActForge:
		return api.Input{Kind: api.InTake, Frame: a.Frame}
	case api.ActReplay:
		if a.N < len(l.w.Frames()) {
			return takes(l.t, l.w.Frames()[a.N])
		}
	case api.ActFetch:
		if mail := l.w.Mail(a.Relay, a.Who); a.N < len(mail) {
			return takes(l.t, mail[a.N])
		}
	}
	return api.Input{}
}

func (l *life) leak(who int) {
	had := map[api.Key]int{}
	for _, n := range stateOf(l.w, who).Nodes {
		had[n.Id] = 1
	}
	if l.do(api.Act{Kind: api.ActLeak, Who: who}) == api.OK {
		l.had = append(l.had, had)
	}
}

// stranger is the stranger's kit: what it draws is its own.
type stranger struct {
	suite.Free
	l *life
}

func (s stranger) Draw(name string) api.Key {
	s.l.do(api.Act{Kind: api.ActCook, Cook: api.Cook{Kind: api.CookDraw, Text: name}})
	return s.Free.Draw("foe " + name)
}

// impersonate lets the stranger see all that a member has, and do something in its name with that.
func (l *life) impersonate(who int) {
	s, up := l.w.Member(who)
	if !up {
		return
	}
	l.leak(who)
	kit := stranger{l.w.Free(), l}
	in := l.someInput()
	next, posts, e := member.Do(kit, s, in)
	if e == api.OK && l.r.Intn(2) == 0 {
		var more []api.Post
		if next, more, e = member.Do(kit, next, l.someInput()); e == api.OK {
			posts = append(posts, more...)
		}
	}
	for _, p := range posts {
		if p.To < l.plan.place.Members && l.r.Intn(5) > 0 {
			if l.do(api.Act{Kind: api.ActForge, Who: p.To, Frame: p.Frame}) == api.OK {
				l.forged++
			}
		}
	}
}

// forge lets the stranger change a frame that was posted.
func (l *life) forge() {
	frames := l.w.Frames()
	if len(frames) == 0 {
		return
	}
	f := takes(l.t, frames[l.r.Intn(len(frames))]).Frame
	other := takes(l.t, frames[l.r.Intn(len(frames))]).Frame
	switch l.r.Intn(7) {
	case 0:
		f.Op.Check = api.Key{1}
	case 1:
		f.Op.Boxes = other.Op.Boxes
	case 2:
		f.Op.Parents = other.Op.Parents
	case 3:
		f.Op.Seq++
	case 4:
		f.Op.Text = other.Op.Text
	case 5:
		f.Op.Author, f.Op.Who = l.someone(), other.Op.Who
	default:
		f.From = l.someone()
	}
	l.do(api.Act{Kind: api.ActForge, Who: l.someone(), Frame: f})
}

func (l *life) someone() int { return l.r.Intn(l.plan.place.Members) }

func (l *life) someInput() api.Input {
	switch l.r.Intn(6) {
	case 0:
		return add(l.someone())
	case 1:
		return remove(l.someone())
	case 2:
		return update()
	case 3:
		return tick()
	}
	return say(fmt.Sprint("text ", l.r.Intn(3)))
}

// live lets things happen, and calls check now and then.
func (l *life) live(check func()) {
	group := []int{0}
	for who := 1; who < l.plan.place.Members; who++ {
		if l.r.Intn(4) > 0 {
			group = append(group, who)
		}
	}
	l.do(step(0, create(group...)))
	for n := range l.plan.acts {
		who, relay := l.someone(), l.r.Intn(l.plan.place.Relays)
		mail := len(l.w.Mail(relay, who))
		switch x := l.r.Intn(40); {
		case x < 3:
			l.do(step(who, l.someInput()))
		case x < 8:
			l.do(step(who, tick()))
		case x == 8 && l.plan.losses:
			l.do(api.Act{Kind: api.ActDrop, Who: who, Relay: relay, N: l.r.Intn(mail + 1)})
		case x == 9 && l.plan.losses:
			l.do(api.Act{Kind: api.ActDouble, Who: who, Relay: relay, N: l.r.Intn(mail + 1)})
		case x == 10:
			l.do(api.Act{Kind: api.ActMove, Who: who, Relay: relay, N: l.r.Intn(mail + 1)})
		case x == 11 && l.plan.crashes:
			l.do(api.Act{Kind: api.ActFuse, Who: who, N: l.r.Intn(8)})
		case x == 12 && l.plan.crashes:
			l.do(api.Act{Kind: api.ActCrash, Who: who})
		case x < 16 && l.plan.crashes:
			l.do(api.Act{Kind: api.ActStart, Who: who, Keep: []uint8{uint8(l.r.Intn(5)), uint8(l.r.Intn(5)), 4}})
		case x == 16 && l.plan.forges:
			l.forge()
		case x == 17 && l.plan.leaks && l.r.Intn(3) == 0:
			l.impersonate(l.victim)
		case x == 18 && l.plan.losses && len(l.w.Frames()) > 0:
			l.do(api.Act{Kind: api.ActReplay, Who: who, N: l.r.Intn(len(l.w.Frames()))})
		default:
			l.do(api.Act{Kind: api.ActFetch, Who: who, Relay: relay, N: l.r.Intn(mail + 1)})
		}
		if n%15 == 14 {
			check()
		}
	}
	check()
}

// strongRemoval is the roster of a graph as the document defines it.
func strongRemoval(l []api.Node) []int {
	counts := make([]bool, len(l))
	of := func(set []int) []int {
		var out []int
		for x := range 8 {
			for _, i := range set {
				o := l[i].Op
				admits := counts[i] && (o.Kind == api.OpCreate || o.Kind == api.OpAdd) && slices.Contains(o.Who, x)
				for _, r := range set {
					if !admits || !counts[r] || l[r].Op.Kind != api.OpRemove {
						continue
					}
					behind := slices.Contains(l[i].Past, r)
					if l[r].Op.Who[0] == x && !behind || o.Kind == api.OpAdd && l[r].Op.Who[0] == o.Author && !behind && !slices.Contains(l[r].Past, i) {
						admits = false
					}
				}
				if admits {
					out = append(out, x)
					break
				}
			}
		}
		return out
	}
	var all []int
	for i, n := range l {
		counts[i] = n.Op.Kind == api.OpCreate || slices.Contains(of(n.Past), n.Op.Author)
		all = append(all, i)
	}
	return of(all)
}

func idsOf(l []api.Node) []api.Key {
	var ids []api.Key
	for _, n := range l {
		ids = append(ids, n.Id)
	}
	slices.SortFunc(ids, func(a, b api.Key) int { return bytes.Compare(a[:], b[:]) })
	return ids
}

func isFor(o api.Op, who int) bool {
	return o.Author == who || slices.ContainsFunc(o.Boxes, func(b api.Box) bool { return b.To == who })
}

func (l *life) members() []api.Member {
	var all []api.Member
	for who := range l.plan.place.Members {
		all = append(all, stateOf(l.w, who))
	}
	return all
}

// agreement is W1.
func (l *life) agreement() int {
	pairs := 0
	all := l.members()
	for i, a := range all {
		if got, want := roster.All(a.Nodes), strongRemoval(a.Nodes); !slices.Equal(got, want) {
			l.t.Fatalf("the roster is %d, not %d", got, want)
		}
		for j, b := range all[:i] {
			if len(a.Nodes) == 0 || !slices.Equal(idsOf(a.Nodes), idsOf(b.Nodes)) {
				continue
			}
			group := roster.All(a.Nodes)
			if !slices.Equal(group, roster.All(b.Nodes)) {
				l.t.Fatal("two have the same operations, and other rosters")
			}
			for _, sender := range group {
				var last api.Op
				for _, n := range a.Nodes {
					if n.Op.Author == sender {
						last = n.Op
					}
				}
				if last.Seq == 0 || !isFor(last, i) || !isFor(last, j) {
					continue
				}
				pairs++
				if x, y := a.Keys.Ratchets[sender], b.Keys.Ratchets[sender]; x != y || !x.Known {
					l.t.Fatalf("%d and %d have not the same secret of %d: %v, %v", i, j, sender, x, y)
				}
			}
		}
	}
	return pairs
}

// causality is W2.
func (l *life) causality() {
	for who, s := range l.members() {
		if !graph.Right(s.Nodes) {
			l.t.Fatal("a set lacks what its elements name")
		}
		var ids []api.Key
		for _, n := range s.Nodes {
			if n.Op.Kind == api.OpSay && isFor(n.Op, who) {
				ids = append(ids, n.Id)
			}
		}
		if !slices.EqualFunc(s.Inbox, ids, func(x api.Letter, id api.Key) bool { return x.Id == id }) {
			l.t.Fatal("the messages are not those that are addressed to the member, in an order that goes")
		}
	}
}

// authenticity is W3.
func (l *life) authenticity() {
	leaked := map[int]int{}
	for _, x := range l.w.Leaks() {
		leaked[x.Who] = 1
	}
	all := l.members()
	texts := map[api.Key]string{}
	for who, s := range all {
		for _, x := range s.Inbox {
			if text, ok := texts[x.Id]; ok && text != x.Text {
				l.t.Fatal("one message has two texts")
			}
			texts[x.Id] = x.Text
			if leaked[who]+leaked[x.Author] == 0 && !slices.Contains(all[x.Author].Inbox, x) {
				l.t.Fatal("a message that its author did not send")
			}
		}
	}
	for _, x := range l.w.Said() {
		if !slices.Contains(all[x.Author].Inbox, api.Letter{Id: x.Id, Author: x.Author, Text: x.Text}) {
			l.t.Fatal("a message that was sent is not its author's")
		}
	}
}

// secrecy is W4.
func (l *life) secrecy() int {
	open := 0
	follows := l.w.Follows()
	leaks := l.w.Leaks()
	all := l.members()
	for _, m := range l.w.Composed() {
		if m.Op.Kind != api.OpSay {
			continue
		}
		if !follows(l.w.Free().Look(api.Key([]byte(m.Op.Text))).Keys[0]) {
			continue
		}
		open++
		nodes := all[m.Op.Author].Nodes
		group, _ := roster.Of(nodes, nodes[graph.Find(nodes, m.Id)].Past)
		excused := false
		for i, x := range leaks {
			if (x.Who == m.Op.Author || slices.Contains(group, x.Who)) && l.had[i][m.Id] == 0 {
				excused = true
			}
		}
		if !excused {
			l.t.Fatalf("the key of a message of %d to %d follows, of %v", m.Op.Author, group, leaks)
		}
	}
	if len(leaks) == 0 {
		l.keysOnce()
	}
	return open
}

// keysOnce checks that no key encrypts two different things of all that was posted.
func (l *life) keysOnce() {
	by := map[api.Key]string{}
	for _, s := range l.w.Frames() {
		f := takes(l.t, s).Frame
		boxes := []string{f.Op.Text}
		for _, b := range f.Op.Boxes {
			boxes = append(boxes, b.Body)
		}
		for _, box := range boxes {
			if len(box) != 32 {
				continue
			}
			x := l.w.Free().Look(api.Key([]byte(box)))
			if x.Kind != api.Seal {
				continue
			}
			if other, ok := by[x.Keys[0]]; ok && other != box {
				l.t.Fatal("a key encrypts two different things")
			}
			by[x.Keys[0]] = box
		}
	}
}

func (l *life) check() {
	l.agreement()
	l.causality()
	l.authenticity()
	l.secrecy()
}

func TestW1ToW5WithoutStranger(t *testing.T) {
	pairs := 0
	for seed := range int64(25) {
		l := begin(t, seed, plan{place: api.Place{Members: 2 + int(seed%4), Relays: 1 + int(seed%3), Blocks: 1000}, acts: 300, crashes: true, losses: true})
		l.live(func() { l.check() })
		l.w.Calm(4)
		pairs += l.agreement()
		if l.check(); l.secrecy() > 0 {
			t.Error("nobody saw anything, and the key of a message follows")
		}
	}
	if pairs < 50 {
		t.Errorf("%d pairs have the same operations", pairs)
	}
}

func TestW1ToW5WithStranger(t *testing.T) {
	open, forged := 0, 0
	for seed := range int64(25) {
		l := begin(t, 100+seed, plan{place: api.Place{Members: 3 + int(seed%3), Relays: 2, Blocks: 1000}, acts: 300, crashes: seed%2 == 0, losses: true, leaks: true, forges: true})
		l.live(func() { l.check() })
		l.w.Calm(3)
		l.check()
		open += l.secrecy()
		forged += l.forged
	}
	if open == 0 || forged == 0 {
		t.Errorf("%d keys of messages follow, %d forged frames were taken", open, forged)
	}
}

func TestW4RemovedAddedAndOutsiders(t *testing.T) {
	w := mustNew(t, api.Place{Members: 4, Relays: 1, Blocks: 1000}, false)
	do(t, w, step(0, create(0, 1, 2)), api.OK)
	w.Calm(3)
	do(t, w, step(0, say("ahead of all")), api.OK)
	w.Calm(3)
	do(t, w, step(1, remove(2)), api.OK)
	w.Calm(3)
	do(t, w, step(0, add(3)), api.OK)
	w.Calm(3)
	do(t, w, step(0, say("the first")), api.OK)
	w.Calm(3)
	do(t, w, step(1, say("the second")), api.OK)
	keyOf := func(at int) api.Key {
		said := w.Said()[at]
		ops := w.Composed()
		return w.Free().Look(api.Key([]byte(ops[graph.Find(ops, said.Id)].Op.Text))).Keys[0]
	}
	expect := func(name string, want ...bool) {
		t.Helper()
		follows := w.Follows()
		for i, x := range want {
			if follows(keyOf(i)) != x {
				t.Errorf("%s: the key of message %d follows: %v", name, i, !x)
			}
		}
	}
	expect("nobody leaks", false, false, false)
	do(t, w, api.Act{Kind: api.ActLeak, Who: 2}, api.OK)
	expect("the removed one leaks", false, false, false)
	do(t, w, api.Act{Kind: api.ActLeak, Who: 3}, api.OK)
	expect("the added one leaks, who does not have the second message", false, false, true)
}

func TestW6Convergence(t *testing.T) {
	for seed := range int64(25) {
		l := begin(t, 200+seed, plan{place: api.Place{Members: 2 + int(seed%4), Relays: 1 + int(seed%4), Blocks: 1024}, acts: 120, crashes: true, losses: true})
		l.live(func() {})
		l.w.Calm(20)
		var all []api.Node
		rest := l.w.Composed()
		for n := len(rest); n > 0; n-- {
			for _, x := range rest {
				if next, e := graph.Add(all, x.Id, x.Op); e == api.OK {
					all = next
				}
			}
		}
		if len(all) != len(rest) {
			t.Fatalf("seed %d: %d of %d operations are a graph", seed, len(all), len(rest))
		}
		if len(all) > 80 {
			continue // a limit may have been reached
		}
		group := roster.All(all)
		for _, who := range group {
			s := stateOf(l.w, who)
			if len(s.Held) > 0 {
				t.Errorf("seed %d: %d holds %d back", seed, who, len(s.Held))
			}
			for _, x := range all {
				if (isFor(x.Op, who) || slices.Contains(group, x.Op.Author)) && graph.Find(s.Nodes, x.Id) < 0 {
					t.Errorf("seed %d: %d of %d lacks an operation of the kind %d by %d", seed, who, group, x.Op.Kind, x.Op.Author)
				}
			}
		}
	}
}

func TestW7Determinism(t *testing.T) {
	for seed := range int64(4) {
		p := plan{place: api.Place{Members: 4, Relays: 2, Blocks: 600}, acts: 200, crashes: true, losses: true, leaks: true, forges: true}
		a, b := begin(t, 300+seed, p), begin(t, 300+seed, p)
		for _, l := range []*life{a, b} {
			l.live(func() {})
			l.w.Calm(2)
		}
		if !slices.Equal(a.log, b.log) || !slices.Equal(a.w.Frames(), b.w.Frames()) || !slices.Equal(a.w.Made(), b.w.Made()) || !slices.Equal(a.w.Said(), b.w.Said()) || !graph.Same(a.w.Composed(), b.w.Composed()) || a.w.Free().Len() != b.w.Free().Len() {
			t.Errorf("seed %d: the same acts lead to other results", seed)
		}
		for who, s := range a.members() {
			if !member.Same(s, stateOf(b.w, who)) {
				t.Errorf("seed %d: the member %d is another one", seed, who)
			}
		}
	}
}
