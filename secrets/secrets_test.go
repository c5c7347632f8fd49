package secrets_test

import (
	"fmt"
	"math/rand"
	"slices"
	"testing"

	"cabal/api"
	"cabal/secrets"
	"cabal/suite"
)

func kits() []suite.Kit { return []suite.Kit{suite.Real{}, suite.NewFree()} }

func id(n int) api.Key { return api.Key{byte(n), 31: 1} }

// op is a valid operation for some receivers, whose check is not told yet.
func op(kind, author int, who []int, to ...int) api.Op {
	o := api.Op{Kind: kind, Author: author, Seq: 2, Parents: []api.Key{id(100)}, Who: who, Check: api.Key{1}}
	if kind == api.OpCreate {
		o.Seq, o.Parents = 1, nil
	}
	if kind == api.OpAck || kind == api.OpAddAck {
		o.Of = id(50)
	}
	if kind == api.OpSay {
		o.Check, o.Text = api.Key{}, "t"
	}
	for _, x := range to {
		o.Boxes = append(o.Boxes, api.Box{To: x})
	}
	return o
}

func same(a, b api.Keys) bool {
	return a.Ratchets == b.Ratchets && slices.Equal(a.Waits, b.Waits)
}

// advanced is a ratchet behind a secret.
func advanced(k suite.Kit, r api.Ratchet, secret api.Key) api.Ratchet {
	r.Chain, r.Key = suite.Two(k, "ratchet", r.Key, secret)
	return r
}

// known are keys that somebody may have: all ratchets are there, but 6 (lost) and 7 (not known).
func known(k suite.Kit) api.Keys {
	var s api.Keys
	for i := range 6 {
		s.Ratchets[i] = api.Ratchet{Known: true, Key: k.Draw(fmt.Sprint("key ", i)), Chain: k.Draw(fmt.Sprint("chain ", i))}
	}
	s.Ratchets[6] = api.Ratchet{Lost: true}
	s.Waits = []api.Wait{{Of: id(50), Who: 5, Key: k.Draw("wait 5")}, {Of: id(50), Who: 4, Key: k.Draw("wait 4")}, {Of: id(51), Who: 4, Key: k.Draw("other")}, {Of: id(50), Who: 4, Key: k.Draw("second")}}
	return s
}

// apply checks what an operation does to what somebody knows: the document's effect is told by want.
func apply(t *testing.T, k suite.Kit, name string, s api.Keys, me int, o, of api.Op, got []api.Key, want func(s *api.Keys)) {
	t.Helper()
	w := s
	w.Waits = slices.Clone(s.Waits)
	want(&w)
	check := k.Hash("check", w.Ratchets[o.Author].Chain)
	if told, e := secrets.Check(k, s, me, o, of, got...); e != api.OK || told != check {
		t.Errorf("%s: Check: %d, %x, not %x", name, e, told, check)
	}
	if next, e := secrets.Apply(k, s, me, id(1), o, of, got...); e != api.ErrCheck || !same(next, api.Keys{}) {
		t.Errorf("%s: a wrong check: %d", name, e)
	}
	o.Check = check
	next, e := secrets.Apply(k, s, me, id(1), o, of, got...)
	if e != api.OK || !same(next, w) {
		t.Errorf("%s: Apply: %d, %v, not %v", name, e, next, w)
	}
}

// refused checks that an operation is not taken.
func refused(t *testing.T, k suite.Kit, name string, s api.Keys, me int, o, of api.Op, want api.Errno, got ...api.Key) {
	t.Helper()
	if told, e := secrets.Check(k, s, me, o, of, got...); e != want || told != (api.Key{}) {
		t.Errorf("%s: Check: %d, not %d", name, e, want)
	}
	if next, e := secrets.Apply(k, s, me, id(1), o, of, got...); e != want || !same(next, api.Keys{}) {
		t.Errorf("%s: Apply: %d, not %d", name, e, want)
	}
}

// seeded is the document's seeding.
func seeded(k suite.Kit, s *api.Keys, o api.Op, seed api.Key) {
	for _, b := range o.Boxes {
		s.Waits = append(s.Waits, api.Wait{Of: id(1), Who: b.To, Key: k.Hash(fmt.Sprintf("member %d", b.To), seed)})
	}
	s.Ratchets[o.Author] = advanced(k, s.Ratchets[o.Author], k.Hash("sender", seed))
}

func TestP17_1Seeded(t *testing.T) {
	for _, k := range kits() {
		seed := k.Draw("seed")
		for me := range 3 {
			o := op(api.OpCreate, 1, []int{0, 1, 2, 7}, 0, 2, 7)
			apply(t, k, "create", known(k), me, o, api.Op{}, []api.Key{seed}, func(s *api.Keys) {
				for _, who := range o.Who {
					s.Ratchets[who] = api.Ratchet{Known: true}
				}
				seeded(k, s, o, seed)
			})
			for _, kind := range []int{api.OpUpdate, api.OpRemove} {
				var who []int
				if kind == api.OpRemove {
					who = []int{5}
				}
				o := op(kind, 1, who, 0, 2)
				apply(t, k, "update or remove", known(k), me, o, api.Op{}, []api.Key{seed}, func(s *api.Keys) { seeded(k, s, o, seed) })
				refused(t, k, "update, no seed", known(k), me, o, api.Op{}, api.ErrKeys)
				refused(t, k, "update, two seeds", known(k), me, o, api.Op{}, api.ErrKeys, seed, seed)
				s := known(k)
				s.Ratchets[1].Known = false
				refused(t, k, "update, not known", s, me, o, api.Op{}, api.ErrKeys, seed)
			}
			refused(t, k, "create, no seed", known(k), me, o, api.Op{}, api.ErrKeys)
			refused(t, k, "create, two seeds", known(k), me, o, api.Op{}, api.ErrKeys, seed, seed)
		}
		alone := op(api.OpCreate, 1, []int{1})
		apply(t, k, "create alone", api.Keys{}, 1, alone, api.Op{}, []api.Key{seed}, func(s *api.Keys) {
			s.Ratchets[1].Known = true
			seeded(k, s, alone, seed)
		})
	}
}

func TestP17_1Add(t *testing.T) {
	for _, k := range kits() {
		key := k.Draw("received")
		for _, x := range []int{7, 6, 5} { // not known, lost, known
			o := op(api.OpAdd, 1, []int{x}, 0, x)
			effect := func(s *api.Keys) {
				if x == 7 {
					s.Ratchets[x].Known = true
				}
				r := advanced(k, s.Ratchets[1], k.Hash("welcome"))
				s.Waits = append(s.Waits, api.Wait{Of: id(1), Who: x, Key: r.Chain})
				s.Ratchets[1] = advanced(k, r, k.Hash("add"))
			}
			for _, me := range []int{0, 1} {
				apply(t, k, "add", known(k), me, o, api.Op{}, nil, effect)
				apply(t, k, "add, something received", known(k), me, o, api.Op{}, []api.Key{key, key}, effect)
				s := known(k)
				s.Ratchets[1] = api.Ratchet{Lost: true}
				refused(t, k, "add, not known", s, me, o, api.Op{}, api.ErrKeys, key)
			}
			apply(t, k, "add of me", known(k), x, o, api.Op{}, []api.Key{key}, func(s *api.Keys) {
				s.Ratchets[1] = api.Ratchet{Known: true, Key: key}
				effect(s)
			})
			s := known(k)
			s.Ratchets[1] = api.Ratchet{Lost: true, Chain: key}
			apply(t, k, "add of me, lost", s, x, o, api.Op{}, []api.Key{key}, func(s *api.Keys) {
				s.Ratchets[1] = api.Ratchet{Known: true, Key: key}
				effect(s)
			})
			refused(t, k, "add of me, nothing received", known(k), x, o, api.Op{}, api.ErrKeys)
			refused(t, k, "add of me, two received", known(k), x, o, api.Op{}, api.ErrKeys, key, key)
		}
	}
}

func TestP17_1Ack(t *testing.T) {
	for _, k := range kits() {
		key := k.Draw("received")
		o := op(api.OpAck, 4, nil, 0, 1)
		for _, me := range []int{0, 1, 4} {
			for _, got := range [][]api.Key{nil, {key}, {key, key}} {
				apply(t, k, "ack with a wait", known(k), me, o, api.Op{}, got, func(s *api.Keys) {
					s.Ratchets[4] = advanced(k, s.Ratchets[4], k.Draw("wait 4"))
					s.Waits = slices.Delete(s.Waits, 1, 2)
				})
			}
			s := known(k)
			s.Waits = s.Waits[:1]
			apply(t, k, "ack without a wait", s, me, o, api.Op{}, []api.Key{key}, func(s *api.Keys) { s.Ratchets[4] = advanced(k, s.Ratchets[4], key) })
			refused(t, k, "ack, nothing received", s, me, o, api.Op{}, api.ErrKeys)
			refused(t, k, "ack, two received", s, me, o, api.Op{}, api.ErrKeys, key, key)
			s = known(k)
			s.Ratchets[4].Known = false
			refused(t, k, "ack, not known", s, me, o, api.Op{}, api.ErrKeys, key)
		}
	}
}

func TestP17_1AddAck(t *testing.T) {
	for _, k := range kits() {
		key := k.Draw("received")
		o := op(api.OpAddAck, 4, nil, 0, 1)
		byAdd := func(s *api.Keys) { s.Ratchets[4] = advanced(k, s.Ratchets[4], k.Hash("add")) }
		for _, me := range []int{0, 1, 4} {
			for _, of := range []api.Op{op(api.OpAdd, 0, []int{3}), {}, op(api.OpRemove, 0, []int{1})} {
				apply(t, k, "addack", known(k), me, o, of, []api.Key{key, key}, byAdd)
				s := known(k)
				s.Ratchets[4].Known = false
				refused(t, k, "addack, not known", s, me, o, of, api.ErrKeys, key)
			}
		}
		of := op(api.OpAdd, 0, []int{1})
		s := known(k)
		for range 2 {
			apply(t, k, "addack of an add of me", s, 1, o, of, []api.Key{key}, func(s *api.Keys) {
				s.Ratchets[4] = api.Ratchet{Known: true, Key: key}
				byAdd(s)
			})
			refused(t, k, "addack of an add of me, nothing received", s, 1, o, of, api.ErrKeys)
			refused(t, k, "addack of an add of me, two received", s, 1, o, of, api.ErrKeys, key, key)
			s.Ratchets[4] = api.Ratchet{Lost: true}
		}
	}
}

func TestP17_1Say(t *testing.T) {
	k := suite.NewFree()
	o := op(api.OpSay, 4, nil, 0)
	for _, me := range []int{0, 4} {
		s := known(k)
		if next, e := secrets.Apply(k, s, me, id(1), o, api.Op{}); e != api.OK || !same(next, s) {
			t.Errorf("say: %d, %v", e, next)
		}
		if check, e := secrets.Check(k, s, me, o, api.Op{}); e != api.OK || check != (api.Key{}) {
			t.Errorf("say: %d, %x", e, check)
		}
		s.Ratchets[4].Known = false
		refused(t, k, "say, not known", s, me, o, api.Op{}, api.ErrKeys)
	}
}

func TestP17_1NotAddressed(t *testing.T) {
	k := suite.NewFree()
	for _, o := range []api.Op{op(api.OpCreate, 1, []int{0, 1}, 0), op(api.OpAdd, 1, []int{3}, 0), op(api.OpRemove, 1, []int{3}, 0), op(api.OpUpdate, 1, nil), op(api.OpAck, 1, nil), op(api.OpAddAck, 1, nil), op(api.OpSay, 1, nil)} {
		s := known(k)
		want := s
		want.Ratchets[1] = api.Ratchet{Lost: true}
		for _, got := range [][]api.Key{nil, {id(1)}} {
			if next, e := secrets.Apply(k, s, 2, id(1), o, api.Op{}, got...); e != api.OK || !same(next, want) {
				t.Errorf("kind %d: %d, %v", o.Kind, e, next)
			}
			if check, e := secrets.Check(k, s, 2, o, api.Op{}, got...); e != api.OK || check != (api.Key{}) {
				t.Errorf("kind %d: %d, %x", o.Kind, e, check)
			}
		}
	}
}

func TestP17_1WrongArguments(t *testing.T) {
	k := suite.NewFree()
	good, bad := op(api.OpUpdate, 1, nil, 0), op(api.OpUpdate, 1, nil, 0)
	bad.Seq = 0
	refused(t, k, "an operation", known(k), 0, bad, api.Op{}, api.ErrArg, id(1))
	refused(t, k, "the zero operation", known(k), 0, api.Op{}, api.Op{}, api.ErrArg, id(1))
	for _, me := range []int{-1, 8, 1 << 40} {
		refused(t, k, "no member", known(k), me, good, api.Op{}, api.ErrArg, id(1))
	}
	if len(secrets.Content(known(k), bad, api.Op{}, id(1), 0)) != 0 {
		t.Error("the content of an operation that is not valid")
	}
}

func TestP17_3Content(t *testing.T) {
	k := suite.NewFree()
	s, seed := known(k), k.Draw("seed")
	key4 := []api.Key{s.Ratchets[4].Key}
	add5, create := op(api.OpAdd, 0, []int{5}), op(api.OpCreate, 2, []int{1, 2, 4}, 1, 4)
	other := op(api.OpAck, 4, nil, 1, 2, 3)
	other.Of = id(99)
	for i, x := range []struct {
		o, of api.Op
		to    int
		want  []api.Key
	}{
		{op(api.OpCreate, 4, []int{3, 4, 5}, 3, 5), api.Op{}, 3, []api.Key{seed}}, {op(api.OpUpdate, 4, nil, 3, 5), api.Op{}, 5, []api.Key{seed}}, {op(api.OpRemove, 4, []int{1}, 3, 5), api.Op{}, 5, []api.Key{seed}},
		{op(api.OpAdd, 4, []int{5}, 3, 5), api.Op{}, 5, key4}, {op(api.OpAdd, 4, []int{5}, 3, 5), api.Op{}, 3, nil},
		{op(api.OpAddAck, 4, nil, 3, 5), add5, 5, key4}, {op(api.OpAddAck, 4, nil, 3, 5), add5, 3, nil}, {op(api.OpAddAck, 4, nil, 3, 5), api.Op{}, 5, nil},
		{op(api.OpAddAck, 4, nil, 3, 5), op(api.OpRemove, 0, []int{5}), 5, nil},
		{op(api.OpAck, 4, nil, 1, 2, 3), create, 1, nil}, {op(api.OpAck, 4, nil, 1, 2, 3), create, 2, nil}, {op(api.OpAck, 4, nil, 1, 2, 3), create, 3, []api.Key{k.Draw("wait 4")}},
		{op(api.OpAck, 5, nil, 1, 2, 3), create, 3, []api.Key{k.Draw("wait 5")}}, {op(api.OpAck, 3, nil, 1, 4), create, 1, nil}, {other, create, 3, []api.Key{{}}},
		{op(api.OpSay, 4, nil, 1), api.Op{}, 1, nil},
	} {
		if got := secrets.Content(s, x.o, x.of, seed, x.to); !slices.Equal(got, x.want) {
			t.Errorf("case %d: %x, not %x", i, got, x.want)
		}
	}
}

func TestP17_1Copies(t *testing.T) {
	k := suite.NewFree()
	s := known(k)
	s.Waits = append(make([]api.Wait, 0, 20), s.Waits...)
	before := slices.Clone(s.Waits)
	got := []api.Key{k.Draw("seed"), {}}
	for _, o := range []api.Op{op(api.OpUpdate, 1, nil, 0, 2), op(api.OpAck, 4, nil, 0)} {
		check, _ := secrets.Check(k, s, 0, o, api.Op{}, got[:1]...)
		o.Check = check
		next, e := secrets.Apply(k, s, 0, id(1), o, api.Op{}, got[:1]...)
		if e != api.OK {
			t.Fatal(e)
		}
		for i := range next.Waits {
			next.Waits[i].Who = 77
		}
	}
	if !slices.Equal(s.Waits, before) || s.Waits[:5][4] != (api.Wait{}) || got[1] != (api.Key{}) {
		t.Error("an argument is changed")
	}
}

// group lets members do operations, each of which comes at once to all those that it is for.
type group struct {
	t    *testing.T
	k    suite.Free
	keys [8]api.Keys
	in   []int
	ops  map[api.Key]api.Op
	last int
}

func (g *group) do(author, kind int, who []int, of api.Key, to []int) api.Key {
	g.t.Helper()
	g.last++
	name := id(g.last)
	o := op(kind, author, who, to...)
	o.Of = of
	acked := g.ops[of]
	var got []api.Key
	seed := g.k.Draw(fmt.Sprint("seed ", g.last))
	if kind <= api.OpUpdate && kind != api.OpAdd {
		got = []api.Key{seed}
	}
	check, e := secrets.Check(g.k, g.keys[author], author, o, acked, got...)
	if e != api.OK {
		g.t.Fatalf("kind %d by %d: Check: %d", kind, author, e)
	}
	o.Check = check
	before := g.keys[author]
	for _, me := range append([]int{author}, to...) {
		if me != author {
			got = secrets.Content(before, o, acked, seed, me)
		}
		old := g.keys[me]
		next, e := secrets.Apply(g.k, old, me, name, o, acked, got...)
		if e != api.OK {
			g.t.Fatalf("kind %d by %d: Apply by %d: %d", kind, author, me, e)
		}
		for i := range 8 {
			if i != author && kind != api.OpCreate && next.Ratchets[i] != old.Ratchets[i] && (kind != api.OpAdd || i != who[0]) {
				g.t.Fatalf("kind %d by %d changes the ratchet of %d", kind, author, i)
			}
		}
		g.keys[me] = next
	}
	g.ops[name] = o
	for _, me := range to {
		if g.keys[me].Ratchets[author] != g.keys[author].Ratchets[author] {
			g.t.Fatalf("kind %d by %d: %d has another ratchet", kind, author, me)
		}
	}
	return name
}

func (g *group) others(who int) []int {
	return slices.DeleteFunc(slices.Clone(g.in), func(x int) bool { return x == who })
}

// anyGroup lets a group change, with an acknowledgement of everything by everybody.
func anyGroup(t *testing.T, r *rand.Rand, steps int, each func(g *group)) {
	g := &group{t: t, k: suite.NewFree(), ops: map[api.Key]api.Op{}, in: []int{0, 1, 2}}
	acks := func(name api.Key, author int) {
		for _, who := range r.Perm(8) {
			if who == author || !slices.Contains(g.in, who) {
				continue
			}
			kind := api.OpAck
			if o := g.ops[name]; o.Kind == api.OpAdd && o.Who[0] != who {
				kind = api.OpAddAck
			}
			g.do(who, kind, nil, name, g.others(who))
		}
	}
	acks(g.do(1, api.OpCreate, []int{0, 1, 2}, api.Key{}, []int{0, 2}), 1)
	next := 3
	for range steps {
		author := g.in[r.Intn(len(g.in))]
		switch r.Intn(3) {
		case 0:
			if next < 8 {
				g.in = append(g.in, next)
				slices.Sort(g.in)
				acks(g.do(author, api.OpAdd, []int{next}, api.Key{}, g.others(author)), author)
				next++
			}
		case 1:
			if out := g.in[r.Intn(len(g.in))]; out != author {
				g.in = g.others(out)
				acks(g.do(author, api.OpRemove, []int{out}, api.Key{}, g.others(author)), author)
			}
		default:
			acks(g.do(author, api.OpUpdate, nil, api.Key{}, g.others(author)), author)
		}
		each(g)
	}
}

func TestP17_4And5Group(t *testing.T) {
	r := rand.New(rand.NewSource(1))
	for range 20 {
		anyGroup(t, r, 12, func(g *group) {
			for _, a := range g.in {
				for _, b := range g.in {
					for _, c := range g.in {
						if x := g.keys[a].Ratchets[c]; !x.Known || x != g.keys[b].Ratchets[c] {
							t.Fatalf("%d and %d have not the same ratchet of %d", a, b, c)
						}
					}
				}
			}
		})
	}
}

func TestP17_6NothingOfThePast(t *testing.T) {
	r := rand.New(rand.NewSource(2))
	k := suite.NewFree()
	for range 100 {
		ratchet := api.Ratchet{Known: true, Key: k.Draw("key"), Chain: k.Draw("chain")}
		s := api.Keys{Waits: []api.Wait{{Of: id(50), Who: 1, Key: k.Draw("wait")}}}
		s.Ratchets[1] = ratchet
		o := op([]int{api.OpAdd, api.OpRemove, api.OpUpdate, api.OpAck, api.OpAddAck}[r.Intn(5)], 1, nil, 0)
		if o.Kind == api.OpAdd || o.Kind == api.OpRemove {
			o.Who = []int{3}
		}
		seed := k.Draw("seed")
		o.Check, _ = secrets.Check(k, s, 0, o, api.Op{}, seed)
		next, e := secrets.Apply(k, s, 0, id(1), o, api.Op{}, seed)
		if e != api.OK {
			t.Fatal(e)
		}
		follows := k.Follow(next.Ratchets[1].Key, next.Ratchets[1].Chain, seed, k.Draw("wait"), o.Check)
		if follows(ratchet.Key) || follows(ratchet.Chain) {
			t.Fatalf("kind %d: the ratchet of before follows", o.Kind)
		}
	}
}
