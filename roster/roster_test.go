package roster_test

import (
	"bytes"
	"math"
	"math/rand"
	"slices"
	"testing"

	"cabal/api"
	"cabal/graph"
	"cabal/roster"
)

func id(n int) api.Key { return api.Key{byte(n * 37), byte(n), 31: 1} }

func sorted(l []api.Key) []api.Key {
	l = slices.Clone(l)
	slices.SortFunc(l, func(a, b api.Key) int { return bytes.Compare(a[:], b[:]) })
	return l
}

// story is a graph that grows.
type story struct {
	t *testing.T
	l []api.Node
}

func begin(t *testing.T, who ...int) *story {
	t.Helper()
	s := &story{t: t}
	return s.add(api.Op{Kind: api.OpCreate, Author: who[0], Who: slices.Sorted(slices.Values(who)), Check: api.Key{1}})
}

// op is an operation behind the nodes at some places; the author's last node is one of them, if it has one.
func (s *story) op(kind, author int, who []int, parents ...int) api.Op {
	o := api.Op{Kind: kind, Author: author, Who: who, Check: api.Key{1}}
	if kind == api.OpSay {
		o.Check, o.Text = api.Key{}, "t"
	}
	if kind == api.OpAck || kind == api.OpAddAck {
		o.Of = id(0)
	}
	for _, p := range parents {
		o.Parents = append(o.Parents, s.l[p].Id)
	}
	o.Parents = sorted(o.Parents)
	for _, n := range s.l {
		if n.Op.Author == author {
			o.Seq++
		}
	}
	o.Seq++
	return o
}

func (s *story) add(o api.Op) *story {
	s.t.Helper()
	if o.Kind == api.OpCreate {
		o.Seq = 1
	}
	l, e := graph.Add(s.l, id(len(s.l)), o)
	if e != api.OK {
		s.t.Fatalf("Add: %d", e)
	}
	s.l = l
	return s
}

func (s *story) step(kind, author, who int, parents ...int) *story {
	s.t.Helper()
	l := []int{who}
	if who < 0 {
		l = nil
	}
	return s.add(s.op(kind, author, l, parents...))
}

func (s *story) adds(author, who int, parents ...int) *story {
	return s.step(api.OpAdd, author, who, parents...)
}

func (s *story) removes(author, who int, parents ...int) *story {
	return s.step(api.OpRemove, author, who, parents...)
}

// is checks the roster of all nodes.
func (s *story) is(name string, want ...int) {
	s.t.Helper()
	if got := roster.All(s.l); !slices.Equal(got, want) {
		s.t.Errorf("%s: %d, not %d", name, got, want)
	}
}

func TestP16_1Stories(t *testing.T) {
	begin(t, 0, 1, 2).is("create", 0, 1, 2)
	begin(t, 0, 1, 2).removes(0, 1, 0).adds(1, 3, 0).is("the document's example", 0, 2)
	begin(t, 0, 1, 2).adds(1, 3, 0).removes(0, 1, 1).is("a removal behind the add", 0, 2, 3)
	begin(t, 0, 1).adds(0, 5, 0).adds(5, 6, 1).is("the added one adds", 0, 1, 5, 6)
	begin(t, 0, 1, 2).removes(0, 1, 0).removes(1, 0, 0).is("two remove one another", 2)
	begin(t, 0, 1, 2).removes(0, 1, 0).removes(1, 2, 1).is("a removed one removes, behind its removal", 0, 2)
	begin(t, 0, 1, 2).removes(0, 1, 0).removes(1, 2, 0).is("a removed one removes, at the same time", 0)
	begin(t, 0, 1).adds(4, 5, 0).is("a stranger adds", 0, 1)
	begin(t, 0, 1).removes(4, 1, 0).is("a stranger removes", 0, 1)
	begin(t, 0, 1, 2).removes(0, 1, 0).adds(2, 1, 1).is("added again behind the removal", 0, 1, 2)
	begin(t, 0, 1, 2).removes(0, 1, 0).adds(2, 1, 0).is("added again at the same time", 0, 2)
	begin(t, 0, 1, 2, 3).removes(0, 1, 0).adds(1, 4, 0).adds(2, 4, 0).is("added by two, of whom one is out", 0, 2, 3, 4)
	begin(t, 0, 1, 2, 3).removes(1, 0, 0).removes(2, 1, 0).adds(0, 4, 0).is("the remover is out too", 2, 3)
	// 2 removes 1 behind all; 3, who was added by 1 at the time of 0's removal of 1, adds 4.
	begin(t, 0, 1, 2).adds(1, 3, 0).removes(0, 1, 0).adds(3, 4, 1).is("whom the added one added", 0, 2, 4)
	begin(t, 0, 1, 2).adds(1, 3, 0).adds(3, 4, 1).removes(0, 3, 1).is("the author of an add is removed at the same time", 0, 1, 2)
}

func TestP16_1Of(t *testing.T) {
	s := begin(t, 0, 1, 2).removes(0, 1, 0).adds(1, 3, 0).step(api.OpUpdate, 2, -1, 1, 2)
	for _, x := range []struct{ set, want []int }{
		{nil, nil}, {[]int{0}, []int{0, 1, 2}}, {[]int{0, 1}, []int{0, 2}}, {[]int{0, 2}, []int{0, 1, 2, 3}}, {[]int{0, 1, 2}, []int{0, 2}}, {[]int{0, 1, 2, 3}, []int{0, 2}},
	} {
		if got, e := roster.Of(s.l, x.set); e != api.OK || !slices.Equal(got, x.want) {
			t.Errorf("%d: %d, %d", x.set, e, got)
		}
	}
	for _, set := range [][]int{{1}, {0, 3}, {0, 1, 3}, {1, 0}, {0, 0}, {0, 1, 1}, {-1}, {-1, 0}, {0, 4}, {0, math.MaxInt}, {0, 2, 1}, {0, 1, 2, 3, 4}} {
		if got, e := roster.Of(s.l, set); e != api.ErrArg || len(got) != 0 {
			t.Errorf("%d: %d, %d", set, e, got)
		}
	}
	if got, e := roster.Of(s.l[1:], nil); e != api.ErrArg || len(got) != 0 {
		t.Errorf("no graph: %d", e)
	}
	if len(roster.All(s.l[1:])) != 0 || len(roster.All(nil)) != 0 {
		t.Error("All of no graph")
	}
}

func TestP16_2Allowed(t *testing.T) {
	s := begin(t, 0, 1, 2).removes(0, 1, 0).adds(2, 3, 0)
	invalid := s.op(api.OpUpdate, 0, nil, 1)
	invalid.Check = api.Key{}
	missing := s.op(api.OpUpdate, 4, nil, 1)
	missing.Parents = sorted(append(missing.Parents, id(50)))
	create := api.Op{Kind: api.OpCreate, Author: 7, Seq: 1, Who: []int{7}, Check: api.Key{1}}
	for i, x := range []struct {
		l []api.Node
		o api.Op
		e api.Errno
	}{
		{s.l[1:], create, api.ErrArg}, {s.l, invalid, api.ErrArg}, {s.l, api.Op{}, api.ErrArg},
		{s.l, missing, api.ErrMissing}, {nil, s.op(api.OpUpdate, 0, nil, 0), api.ErrMissing},
		{s.l, create, api.OK}, {nil, create, api.OK},
		{s.l, s.op(api.OpUpdate, 1, nil, 1), api.ErrRight}, {s.l, s.op(api.OpUpdate, 4, nil, 1), api.ErrRight}, {s.l, s.op(api.OpAdd, 4, []int{0}, 1), api.ErrRight},
		{s.l, s.op(api.OpRemove, 1, []int{6}, 1), api.ErrRight},
		{s.l, s.op(api.OpUpdate, 1, nil, 0), api.OK}, {s.l, s.op(api.OpUpdate, 3, nil, 2), api.OK}, {s.l, s.op(api.OpUpdate, 3, nil, 1), api.ErrRight},
		{s.l, s.op(api.OpAck, 0, nil, 1), api.OK}, {s.l, s.op(api.OpAddAck, 0, nil, 1), api.OK}, {s.l, s.op(api.OpSay, 0, nil, 1), api.OK}, {s.l, s.op(api.OpSay, 5, nil, 1), api.ErrRight},
		{s.l, s.op(api.OpAdd, 0, []int{1}, 1), api.ErrThere}, {s.l, s.op(api.OpAdd, 0, []int{2}, 1), api.ErrThere}, {s.l, s.op(api.OpAdd, 0, []int{3}, 1, 2), api.ErrThere},
		{s.l, s.op(api.OpAdd, 0, []int{3}, 1), api.OK}, {s.l, s.op(api.OpAdd, 0, []int{7}, 1, 2), api.OK},
		{s.l, s.op(api.OpRemove, 0, []int{1}, 1), api.ErrNone}, {s.l, s.op(api.OpRemove, 0, []int{7}, 1), api.ErrNone}, {s.l, s.op(api.OpRemove, 0, []int{3}, 1), api.ErrNone},
		{s.l, s.op(api.OpRemove, 0, []int{3}, 1, 2), api.OK}, {s.l, s.op(api.OpRemove, 2, []int{1}, 2), api.OK},
	} {
		if e := roster.Allowed(x.l, x.o); e != x.e {
			t.Errorf("case %d: %d, not %d", i, e, x.e)
		}
		to, e := roster.To(x.l, x.o)
		if e != x.e || e != api.OK && len(to) != 0 {
			t.Errorf("To, case %d: %d, not %d", i, e, x.e)
		}
	}
	// An add that does not count is one nevertheless.
	s = begin(t, 0, 1).adds(4, 5, 0).step(api.OpUpdate, 1, -1, 1)
	if e := roster.Allowed(s.l, s.op(api.OpAdd, 0, []int{5}, 2)); e != api.ErrThere {
		t.Errorf("an add that does not count: %d", e)
	}
}

func TestP16_3To(t *testing.T) {
	s := begin(t, 0, 1, 2, 5).removes(0, 1, 0).adds(2, 3, 0)
	for i, x := range []struct {
		o    api.Op
		want []int
	}{
		{api.Op{Kind: api.OpCreate, Author: 4, Seq: 1, Who: []int{1, 4, 7}, Check: api.Key{1}}, []int{1, 7}},
		{api.Op{Kind: api.OpCreate, Author: 4, Seq: 1, Who: []int{4}, Check: api.Key{1}}, nil},
		{s.op(api.OpUpdate, 0, nil, 1), []int{2, 5}}, {s.op(api.OpUpdate, 0, nil, 1, 2), []int{2, 3, 5}}, {s.op(api.OpAck, 5, nil, 0), []int{0, 1, 2}},
		{s.op(api.OpAddAck, 5, nil, 1), []int{0, 2}}, {s.op(api.OpSay, 3, nil, 2), []int{0, 1, 2, 5}},
		{s.op(api.OpAdd, 0, []int{4}, 1), []int{2, 4, 5}}, {s.op(api.OpAdd, 0, []int{7}, 1, 2), []int{2, 3, 5, 7}},
		{s.op(api.OpRemove, 0, []int{5}, 1), []int{2}}, {s.op(api.OpRemove, 0, []int{3}, 1, 2), []int{2, 5}},
	} {
		if got, e := roster.To(s.l, x.o); e != api.OK || !slices.Equal(got, x.want) {
			t.Errorf("case %d: %d, %d, not %d", i, e, got, x.want)
		}
	}
}

// byDefinition is the roster of a set as the document defines it, word by word.
func byDefinition(l []api.Node, set []int) []int {
	counts := func(i int) bool {
		return l[i].Op.Kind == api.OpCreate || slices.Contains(byDefinition(l, l[i].Past), l[i].Op.Author)
	}
	var removals []int
	for _, i := range set {
		if l[i].Op.Kind == api.OpRemove && counts(i) {
			removals = append(removals, i)
		}
	}
	var out []int
	for x := range 8 {
		for _, i := range set {
			o := l[i].Op
			admits := (o.Kind == api.OpCreate || o.Kind == api.OpAdd) && slices.Contains(o.Who, x) && counts(i)
			for _, r := range removals {
				if o.Kind == api.OpAdd && l[r].Op.Who[0] == o.Author && graph.Apart(l, i, r) {
					admits = false
				}
				if l[r].Op.Who[0] == x && !slices.Contains(l[i].Past, r) {
					admits = false
				}
			}
			if admits {
				out = append(out, x)
				break
			}
		}
	}
	return out
}

// anyStory lets members, and some who are none, do anything behind what some of them have.
func anyStory(t *testing.T, r *rand.Rand, n int) *story {
	s := begin(t, r.Perm(6)[:1+r.Intn(4)]...)
	for len(s.l) < n {
		author := r.Intn(7)
		var parents []int
		for i, x := range s.l {
			if x.Op.Author == author {
				parents = []int{i}
			}
		}
		for range 1 + r.Intn(2) {
			if p := r.Intn(len(s.l)); !slices.Contains(parents, p) {
				parents = append(parents, p)
			}
		}
		kind := []int{api.OpAdd, api.OpAdd, api.OpRemove, api.OpRemove, api.OpUpdate}[r.Intn(5)]
		who := r.Intn(7)
		if kind == api.OpUpdate {
			who = -1
		}
		if who != author {
			s.step(kind, author, who, parents...)
		}
	}
	return s
}

func TestP16_1LikeTheDefinition(t *testing.T) {
	r := rand.New(rand.NewSource(1))
	for range 250 {
		s := anyStory(t, r, 2+r.Intn(7))
		var all []int
		for i := range s.l {
			all = append(all, i)
			got, e := roster.Of(s.l, all)
			if want := byDefinition(s.l, all); e != api.OK || !slices.Equal(got, want) {
				t.Fatalf("%v: %d, not %d", s.l[:i+1], got, want)
			}
			past := s.l[i].Past
			got, e = roster.Of(s.l, past)
			if want := byDefinition(s.l, past); e != api.OK || !slices.Equal(got, want) {
				t.Fatalf("%v, the past of %d: %d, not %d", s.l, i, got, want)
			}
		}
		if !slices.Equal(roster.All(s.l), byDefinition(s.l, all)) {
			t.Fatal("All")
		}
	}
}

func TestP16_4AnyOrder(t *testing.T) {
	r := rand.New(rand.NewSource(2))
	for range 60 {
		s := anyStory(t, r, 2+r.Intn(25))
		var out []api.Node
		rest := slices.Clone(s.l)
		for len(rest) > 0 {
			at := r.Intn(len(rest))
			if next, e := graph.Add(out, rest[at].Id, rest[at].Op); e == api.OK {
				out = next
				rest = slices.Delete(rest, at, at+1)
			}
		}
		if !slices.Equal(roster.All(out), roster.All(s.l)) {
			t.Fatalf("%d and %d", roster.All(out), roster.All(s.l))
		}
	}
}

func TestP16_5StrongRemoval(t *testing.T) {
	r := rand.New(rand.NewSource(3))
	for range 200 {
		s := anyStory(t, r, 2+r.Intn(25))
		all := roster.All(s.l)
		for i, n := range s.l {
			if n.Op.Kind != api.OpRemove {
				continue
			}
			if before, _ := roster.Of(s.l, n.Past); !slices.Contains(before, n.Op.Author) {
				continue
			}
			admittedLater := slices.ContainsFunc(s.l, func(m api.Node) bool {
				return m.Op.Kind == api.OpAdd && m.Op.Who[0] == n.Op.Who[0] && slices.Contains(m.Past, i)
			})
			if !admittedLater && slices.Contains(all, n.Op.Who[0]) {
				t.Fatalf("%d was removed and is there", n.Op.Who[0])
			}
		}
	}
}

func TestP16_6OtherKinds(t *testing.T) {
	r := rand.New(rand.NewSource(4))
	for range 60 {
		s := anyStory(t, r, 2+r.Intn(15))
		before := roster.All(s.l)
		for range 8 {
			author := r.Intn(8)
			parents := []int{}
			for i, x := range s.l {
				if x.Op.Author == author {
					parents = []int{i}
				}
			}
			if p := r.Intn(len(s.l)); !slices.Contains(parents, p) {
				parents = append(parents, p)
			}
			s.step(api.OpUpdate+r.Intn(4), author, -1, parents...)
			if !slices.Equal(roster.All(s.l), before) {
				t.Fatal("the roster changes")
			}
		}
	}
}
