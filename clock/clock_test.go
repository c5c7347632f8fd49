package clock_test

import (
	"bytes"
	"math"
	"math/rand"
	"slices"
	"testing"

	"cabal/api"
	"cabal/clock"
	"cabal/graph"
)

func id(n int) api.Key { return api.Key{byte(n * 37), byte(n), 31: 1} }

// anyGraph grows a graph of n nodes: each author names its own last node, and one more.
func anyGraph(t *testing.T, r *rand.Rand, n int) []api.Node {
	t.Helper()
	l, e := graph.Add(nil, id(0), api.Op{Kind: api.OpCreate, Author: 3, Seq: 1, Who: []int{3}, Check: api.Key{1}})
	if e != api.OK {
		t.Fatal(e)
	}
	for len(l) < n {
		o := api.Op{Kind: api.OpUpdate, Author: r.Intn(8), Seq: 1, Parents: []api.Key{l[r.Intn(len(l))].Id}, Check: api.Key{1}}
		for _, x := range l {
			if x.Op.Author == o.Author {
				o.Seq++
				o.Parents = []api.Key{x.Id, o.Parents[len(o.Parents)-1]}
			}
		}
		slices.SortFunc(o.Parents, func(a, b api.Key) int { return bytes.Compare(a[:], b[:]) })
		o.Parents = slices.Compact(o.Parents)
		if l, e = graph.Add(l, id(len(l)), o); e != api.OK {
			t.Fatal(e)
		}
	}
	return l
}

func of(t *testing.T, l []api.Node, at int) api.Clock {
	t.Helper()
	c, e := clock.Of(l, at)
	if e != api.OK {
		t.Fatalf("Of: %d", e)
	}
	return c
}

func TestP26_1OfAndAll(t *testing.T) {
	r := rand.New(rand.NewSource(1))
	for range 20 {
		l := anyGraph(t, r, 1+r.Intn(40))
		var all api.Clock
		for i, n := range l {
			var want api.Clock
			for j, m := range l {
				if j == i || slices.Contains(n.Past, j) {
					want[m.Op.Author]++
				}
			}
			if got, e := clock.Of(l, i); e != api.OK || got != want || got[n.Op.Author] != n.Op.Seq {
				t.Errorf("the node %d: %d, %d, not %d", i, e, got, want)
			}
			all[n.Op.Author]++
		}
		if got, e := clock.All(l); e != api.OK || got != all {
			t.Errorf("All: %d, %d, not %d", e, got, all)
		}
		for _, at := range []int{-1, len(l), math.MaxInt, math.MinInt} {
			if c, e := clock.Of(l, at); e != api.ErrNone || c != (api.Clock{}) {
				t.Errorf("the node %d of %d: %d", at, len(l), e)
			}
		}
		bad := slices.Clone(l)
		bad[0].Op.Author = 9
		for _, at := range []int{0, -1, 99} {
			if c, e := clock.Of(bad, at); e != api.ErrArg || c != (api.Clock{}) {
				t.Errorf("no graph: %d", e)
			}
		}
		if c, e := clock.All(bad); e != api.ErrArg || c != (api.Clock{}) {
			t.Errorf("All of no graph: %d", e)
		}
	}
	if c, e := clock.All(nil); e != api.OK || c != (api.Clock{}) {
		t.Errorf("the empty graph: %d", e)
	}
	if _, e := clock.Of(nil, 0); e != api.ErrNone {
		t.Errorf("a node of the empty graph: %d", e)
	}
}

func TestP26_2OrderAndJoin(t *testing.T) {
	const top = math.MaxUint32
	for _, x := range []struct {
		a, b api.Clock
		want int
	}{
		{api.Clock{}, api.Clock{}, api.Equal}, {api.Clock{7: top}, api.Clock{7: top}, api.Equal}, {api.Clock{1, 0}, api.Clock{1, 2}, api.Less}, {api.Clock{1, 0}, api.Clock{0, 1}, api.Aside},
		{api.Clock{}, api.Clock{7: 1}, api.Less}, {api.Clock{1, 2, 3}, api.Clock{1, 2, 2}, api.More}, {api.Clock{top}, api.Clock{1}, api.More}, {api.Clock{top, 1}, api.Clock{1, 2}, api.Aside}, {api.Clock{5: 3, 7: 1}, api.Clock{5: 2, 7: 2}, api.Aside},
	} {
		back := map[int]int{api.Less: api.More, api.More: api.Less, api.Equal: api.Equal, api.Aside: api.Aside}[x.want]
		if got := clock.Order(x.a, x.b); got != x.want || clock.Order(x.b, x.a) != back {
			t.Errorf("%d and %d: %d", x.a, x.b, got)
		}
	}
	if clock.Join() != (api.Clock{}) || clock.Join(api.Clock{1, 2}) != (api.Clock{1, 2}) || clock.Join(api.Clock{1, 5, 0, top}, api.Clock{3, 2}, api.Clock{7: 9}) != (api.Clock{0: 3, 1: 5, 3: top, 7: 9}) {
		t.Error("Join")
	}
}

func TestP26_3Due(t *testing.T) {
	const top = math.MaxUint32
	for i, x := range []struct {
		have, c api.Clock
		author  int
		want    bool
	}{
		{api.Clock{}, api.Clock{1}, 0, true}, {api.Clock{}, api.Clock{}, 0, false}, {api.Clock{1}, api.Clock{1}, 0, false}, {api.Clock{1}, api.Clock{2}, 0, true}, {api.Clock{1}, api.Clock{3}, 0, false}, {api.Clock{2}, api.Clock{1}, 0, false},
		{api.Clock{1, 4}, api.Clock{2, 4}, 0, true}, {api.Clock{1, 4}, api.Clock{2, 1}, 0, true}, {api.Clock{1, 4}, api.Clock{2, 5}, 0, false}, {api.Clock{1, 4}, api.Clock{2, 5}, 1, false}, {api.Clock{2, 4}, api.Clock{2, 5}, 1, true}, {api.Clock{7: 1}, api.Clock{7: 2}, 7, true},
		{api.Clock{top}, api.Clock{}, 0, false}, {api.Clock{top - 1}, api.Clock{top}, 0, true}, {api.Clock{}, api.Clock{1}, -1, false}, {api.Clock{}, api.Clock{1}, 8, false}, {api.Clock{}, api.Clock{1}, math.MaxInt, false}, {api.Clock{}, api.Clock{1}, math.MinInt, false},
	} {
		if clock.Due(x.have, x.c, x.author) != x.want {
			t.Errorf("case %d", i)
		}
	}
}

func TestP26_4Lacks(t *testing.T) {
	const top = math.MaxUint32
	for i, x := range []struct {
		have, want api.Clock
		spans      []api.Span
	}{
		{api.Clock{1, 4}, api.Clock{3, 2}, []api.Span{{Who: 0, From: 2, To: 3}}}, {api.Clock{}, api.Clock{}, nil}, {api.Clock{5}, api.Clock{5}, nil}, {api.Clock{5}, api.Clock{4}, nil},
		{api.Clock{0, 1, 7: 2}, api.Clock{1, 2, 7: top}, []api.Span{{Who: 0, From: 1, To: 1}, {Who: 1, From: 2, To: 2}, {Who: 7, From: 3, To: top}}}, {api.Clock{top}, api.Clock{top, 1}, []api.Span{{Who: 1, From: 1, To: 1}}},
	} {
		if got := clock.Lacks(x.have, x.want); !slices.Equal(got, x.spans) {
			t.Errorf("case %d: %v", i, got)
		}
	}
}

func TestP26_5Precedence(t *testing.T) {
	r := rand.New(rand.NewSource(2))
	for range 10 {
		l := anyGraph(t, r, 2+r.Intn(25))
		for a := range l {
			for b := range l {
				order := clock.Order(of(t, l, a), of(t, l, b))
				if (order == api.Less) != graph.Ahead(l, a, b) || (order == api.Aside) != graph.Apart(l, a, b) || (order == api.Equal) != (a == b) {
					t.Fatalf("%d and %d: %d", a, b, order)
				}
			}
		}
	}
}

func TestP26_6PartialOrder(t *testing.T) {
	r := rand.New(rand.NewSource(3))
	any := func() api.Clock {
		var c api.Clock
		for who := range c {
			c[who] = uint32(r.Intn(3))
		}
		return c
	}
	few := func() api.Clock { return api.Clock{uint32(r.Intn(3)), uint32(r.Intn(3))} }
	for range 3000 {
		a, b, c := few(), few(), few()
		if clock.Order(a, a) != api.Equal || clock.Order(a, b) == api.Less && (clock.Order(b, a) != api.More || clock.Order(b, c) == api.Less && clock.Order(a, c) != api.Less) {
			t.Fatalf("%d, %d and %d", a, b, c)
		}
		x, y, z := any(), any(), any()
		joined := clock.Join(x, y, z)
		for who := range joined {
			if joined[who] < x[who] || joined[who] < y[who] || joined[who] < z[who] || joined[who] != x[who] && joined[who] != y[who] && joined[who] != z[who] {
				t.Fatalf("Join of %d, %d and %d: %d", x, y, z, joined)
			}
		}
	}
}

func TestP26_7DueInGraphs(t *testing.T) {
	r := rand.New(rand.NewSource(4))
	for range 40 {
		l := anyGraph(t, r, 2+r.Intn(25))
		there := map[int]int{}
		var have api.Clock
		for len(there) < len(l) {
			var ready []int
			for i, n := range l {
				want := there[i] == 0 && !slices.ContainsFunc(n.Past, func(p int) bool { return there[p] == 0 })
				if clock.Due(have, of(t, l, i), n.Op.Author) != want {
					t.Fatalf("the node %d behind %v", i, there)
				}
				if want {
					ready = append(ready, i)
				}
			}
			next := ready[r.Intn(len(ready))]
			there[next] = 1
			have[l[next].Op.Author]++
		}
	}
}
