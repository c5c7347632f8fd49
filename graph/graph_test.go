package graph_test

import (
	"bytes"
	"math"
	"math/rand"
	"slices"
	"testing"

	"cabal/api"
	"cabal/graph"
)

// id is the name of a test's node.
func id(n int) api.Key { return api.Key{byte(n * 37), byte(n), 31: 1} }

func sorted(l ...api.Key) []api.Key {
	l = slices.Clone(l)
	slices.SortFunc(l, func(a, b api.Key) int { return bytes.Compare(a[:], b[:]) })
	return l
}

func create(who ...int) api.Op {
	return api.Op{Kind: api.OpCreate, Author: who[0], Seq: 1, Who: slices.Sorted(slices.Values(who)), Check: api.Key{1}, Boxes: []api.Box{{To: 7}}}
}

func update(author int, seq uint32, parents ...api.Key) api.Op {
	return api.Op{Kind: api.OpUpdate, Author: author, Seq: seq, Parents: sorted(parents...), Check: api.Key{1}, Boxes: []api.Box{{To: (author + 1) % 8, Body: "b"}}}
}

func mustAdd(t *testing.T, l []api.Node, name api.Key, o api.Op) []api.Node {
	t.Helper()
	next, e := graph.Add(l, name, o)
	if e != api.OK {
		t.Fatalf("Add: %d", e)
	}
	return next
}

// clone copies a graph, so that a test may change it.
func clone(l []api.Node) []api.Node {
	l = slices.Clone(l)
	for i := range l {
		l[i].Past = slices.Clone(l[i].Past)
		l[i].Op.Parents = slices.Clone(l[i].Op.Parents)
		l[i].Op.Who = slices.Clone(l[i].Op.Who)
		l[i].Op.Boxes = slices.Clone(l[i].Op.Boxes)
	}
	return l
}

// anyGraph grows a graph of n nodes: each author names its own last node, and some others.
func anyGraph(t *testing.T, r *rand.Rand, n int) []api.Node {
	t.Helper()
	l := mustAdd(t, nil, id(0), create(0, 1, 2, 3, 4, 5, 6, 7))
	for i := 1; i < n; i++ {
		author := r.Intn(8)
		parents := map[api.Key]int{l[r.Intn(len(l))].Id: 1}
		seq := uint32(1)
		for _, x := range l {
			if x.Op.Author == author {
				seq++
				parents[x.Id] = 1
			}
		}
		var names []api.Key
		for name := range parents {
			names = append(names, name)
		}
		names = sorted(names...)
		for len(names) > 8 || r.Intn(2) == 0 && len(names) > 1 { // those ahead of others need not be named
			at := slices.IndexFunc(names, func(k api.Key) bool {
				return slices.ContainsFunc(names, func(m api.Key) bool { return graph.Ahead(l, graph.Find(l, k), graph.Find(l, m)) })
			})
			if at < 0 {
				break
			}
			names = slices.Delete(names, at, at+1)
		}
		l = mustAdd(t, l, id(i), update(author, seq, names...))
	}
	return l
}

// ahead is what is ahead of a node by its parents alone.
func ahead(l []api.Node, at int) map[int]int {
	out := map[int]int{}
	for _, p := range l[at].Op.Parents {
		i := slices.IndexFunc(l, func(x api.Node) bool { return x.Id == p })
		out[i] = 1
		for j := range ahead(l[:i+1], i) {
			out[j] = 1
		}
	}
	return out
}

// diamond is a graph: 0, then 1 and 2 apart, then 3 behind both.
func diamond(t *testing.T) []api.Node {
	t.Helper()
	l := mustAdd(t, nil, id(0), create(0, 1, 2))
	l = mustAdd(t, l, id(1), update(1, 1, id(0)))
	l = mustAdd(t, l, id(2), update(2, 1, id(0)))
	return mustAdd(t, l, id(3), update(1, 2, id(1), id(2)))
}

func TestP15_1Right(t *testing.T) {
	r := rand.New(rand.NewSource(1))
	if !graph.Right(nil) || !graph.Right([]api.Node{}) {
		t.Error("the empty graph")
	}
	for range 20 {
		l := anyGraph(t, r, 1+r.Intn(40))
		for n := range l {
			if !graph.Right(l[:n]) {
				t.Fatalf("%d nodes", n)
			}
		}
	}
	good := diamond(t)
	for name, change := range map[string]func(l []api.Node) []api.Node{
		"an Id twice":            func(l []api.Node) []api.Node { l[2].Id = id(1); return l },
		"an operation":           func(l []api.Node) []api.Node { l[2].Op.Check = api.Key{}; return l },
		"a parent that is none":  func(l []api.Node) []api.Node { l[2].Op.Parents = []api.Key{id(9)}; return l },
		"its own parent":         func(l []api.Node) []api.Node { l[2].Op.Parents = []api.Key{id(2)}; return l },
		"a later parent":         func(l []api.Node) []api.Node { l[1], l[3] = l[3], l[1]; return l },
		"a Past that lacks one":  func(l []api.Node) []api.Node { l[3].Past = []int{0, 1}; return l },
		"a Past without a first": func(l []api.Node) []api.Node { l[3].Past = []int{1, 2}; return l },
		"a Past with one more":   func(l []api.Node) []api.Node { l[2].Past = []int{0, 1}; return l },
		"a Past with itself":     func(l []api.Node) []api.Node { l[3].Past = []int{0, 1, 2, 3}; return l },
		"a Past that falls":      func(l []api.Node) []api.Node { l[3].Past = []int{0, 2, 1}; return l },
		"a Past twice":           func(l []api.Node) []api.Node { l[3].Past = []int{0, 1, 1, 2}; return l },
		"no Past":                func(l []api.Node) []api.Node { l[3].Past = nil; return l },
		"a Past below 0":         func(l []api.Node) []api.Node { l[3].Past = []int{-1, 0, 1, 2}; return l },
		"a Past far off":         func(l []api.Node) []api.Node { l[3].Past = []int{0, 1, 2, 1000}; return l },
		"the first one's Past":   func(l []api.Node) []api.Node { l[0].Past = []int{0}; return l },
		"a great Seq":            func(l []api.Node) []api.Node { l[3].Op.Seq = 3; return l },
		"a small Seq":            func(l []api.Node) []api.Node { l[3].Op.Seq = 1; return l },
		"a second first one":     func(l []api.Node) []api.Node { l[2].Op.Seq = 2; return l },
		"two apart of an author": func(l []api.Node) []api.Node { l[2].Op.Author = 1; l[2].Op.Boxes = nil; return l[:3] },
		"two apart, numbered":    func(l []api.Node) []api.Node { l[2].Op.Author, l[2].Op.Seq, l[2].Op.Boxes = 1, 2, nil; return l[:3] },
		"no create":              func(l []api.Node) []api.Node { return l[1:2] },
		"two creates":            func(l []api.Node) []api.Node { l[1].Op, l[1].Past = create(1), nil; return l[:2] },
		"a first update":         func(l []api.Node) []api.Node { l[0].Op = update(0, 1, id(5)); return l[:1] },
	} {
		if graph.Right(change(clone(good))) {
			t.Error(name)
		}
	}
	full := anyGraph(t, r, 96)
	if !graph.Right(full) {
		t.Error("96 nodes")
	}
	last := clone(full)[95]
	last.Id, last.Op.Seq = id(96), last.Op.Seq+1
	last.Op.Parents, last.Past = []api.Key{full[95].Id}, append(last.Past, 95)
	if graph.Right(append(full, last)) {
		t.Error("97 nodes")
	}
}

func TestP15_1FindAheadApart(t *testing.T) {
	l := diamond(t)
	for i := range l {
		if graph.Find(l, id(i)) != i {
			t.Errorf("Find %d", i)
		}
	}
	if graph.Find(l, id(4)) != -1 || graph.Find(nil, api.Key{}) != -1 {
		t.Error("Find finds what is not there")
	}
	twice := clone(l)
	twice[3].Id, twice[0].Op = id(1), api.Op{}
	if graph.Find(twice, id(1)) != 1 {
		t.Error("Find in a list that is no graph")
	}
	wantAhead := map[[2]int]bool{{0, 1}: true, {0, 2}: true, {0, 3}: true, {1, 3}: true, {2, 3}: true}
	for a := -1; a <= 4; a++ {
		for b := -1; b <= 4; b++ {
			if graph.Ahead(l, a, b) != wantAhead[[2]int{a, b}] {
				t.Errorf("Ahead %d %d", a, b)
			}
			if graph.Apart(l, a, b) != (a+b == 3 && a*b == 2) {
				t.Errorf("Apart %d %d", a, b)
			}
			if graph.Ahead(twice, a, b) || graph.Apart(twice, a, b) {
				t.Errorf("%d %d of no graph", a, b)
			}
		}
	}
	if graph.Ahead(l, math.MinInt, math.MaxInt) || graph.Apart(l, math.MaxInt, 0) {
		t.Error("far places")
	}
}

func TestP15_1Same(t *testing.T) {
	good := diamond(t)
	l := [][]api.Node{good, good[:3], nil}
	for _, change := range []func(n *api.Node){
		func(n *api.Node) { n.Id[31]++ }, func(n *api.Node) { n.Past = []int{0, 2} }, func(n *api.Node) { n.Op.Seq++ }, func(n *api.Node) { n.Op.Boxes[0].Body = "c" },
		func(n *api.Node) { n.Op.Parents = nil }, func(n *api.Node) { n.Op.Check[9]++ }, func(n *api.Node) { n.Op.Text = "t" }, func(n *api.Node) { n.Op.Who = []int{1} },
	} {
		c := clone(good)
		change(&c[3])
		l = append(l, c)
	}
	for i := range l {
		for j := range l {
			if graph.Same(l[i], clone(l[j])) != (i == j) {
				t.Errorf("%d and %d", i, j)
			}
		}
	}
	if !graph.Same(nil, []api.Node{}) || !graph.Same([]api.Node{{}}, []api.Node{{Past: []int{}}}) {
		t.Error("nil and empty")
	}
}

func TestP15_2Past(t *testing.T) {
	l := diamond(t)
	for _, x := range []struct {
		parents []api.Key
		want    []int
	}{
		{nil, nil}, {[]api.Key{id(0)}, []int{0}}, {[]api.Key{id(1)}, []int{0, 1}}, {[]api.Key{id(2), id(0)}, []int{0, 2}},
		{[]api.Key{id(2), id(1), id(2)}, []int{0, 1, 2}}, {[]api.Key{id(3)}, []int{0, 1, 2, 3}},
	} {
		if got, e := graph.Past(l, x.parents...); e != api.OK || !slices.Equal(got, x.want) {
			t.Errorf("%x: %d, %d", x.parents, e, got)
		}
	}
	if got, e := graph.Past(l, id(1), id(9)); e != api.ErrMissing || len(got) != 0 {
		t.Errorf("a parent that is missing: %d", e)
	}
	if got, e := graph.Past(l[1:], id(1)); e != api.ErrArg || len(got) != 0 {
		t.Errorf("no graph: %d", e)
	}
	if _, e := graph.Past(l[1:], id(9)); e != api.ErrArg {
		t.Errorf("no graph, and a parent that is missing: %d", e)
	}
	if got, e := graph.Past(nil); e != api.OK || len(got) != 0 {
		t.Errorf("the empty graph: %d", e)
	}
}

func TestP15_3Add(t *testing.T) {
	l := diamond(t)
	o := update(0, 2, id(1), id(2))
	got := mustAdd(t, l, id(4), o)
	if len(got) != 5 || !graph.Same(got[:4], l) || !graph.Same(got[4:], []api.Node{{Id: id(4), Op: o, Past: []int{0, 1, 2}}}) {
		t.Errorf("%v", got)
	}
	invalid := o
	invalid.Check = api.Key{}
	for i, x := range []struct {
		l  []api.Node
		id api.Key
		o  api.Op
		e  api.Errno
	}{
		{l[1:], id(4), o, api.ErrArg}, {l, id(4), invalid, api.ErrArg}, {l, id(1), invalid, api.ErrArg},
		{l, id(0), o, api.ErrThere}, {l, id(1), o, api.ErrThere}, {l, id(3), o, api.ErrThere}, {l, id(1), update(0, 9, id(7)), api.ErrThere},
		{l, id(4), update(0, 2, id(1), id(7)), api.ErrMissing}, {l, id(4), update(0, 9, id(4)), api.ErrMissing}, {nil, id(0), update(0, 1, id(7)), api.ErrMissing},
		{l, id(4), create(5), api.ErrSeq}, {l[:1], id(1), create(5), api.ErrSeq}, {l, id(4), update(0, 1, id(1)), api.ErrSeq}, {l, id(4), update(0, 3, id(1)), api.ErrSeq}, {l, id(4), update(0, math.MaxUint32, id(1)), api.ErrSeq},
		{l, id(4), update(1, 2, id(1)), api.ErrSeq}, {l, id(4), update(1, 1, id(0)), api.ErrSeq}, {l, id(4), update(1, 3, id(1)), api.ErrSeq},
	} {
		if got, e := graph.Add(x.l, x.id, x.o); e != x.e || len(got) != 0 {
			t.Errorf("case %d: %d, not %d", i, e, x.e)
		}
	}
	mustAdd(t, l, id(4), update(1, 3, id(3)))
	mustAdd(t, l, id(4), update(5, 1, id(0)))
}

func TestP15_3Full(t *testing.T) {
	l := anyGraph(t, rand.New(rand.NewSource(2)), 96)
	seq := uint32(1)
	for _, n := range l {
		if n.Op.Author == 0 {
			seq++
		}
	}
	next := update(0, seq, graph.Heads(l)...)
	mustAdd(t, l[:95], id(96), update(0, 1+uint32(len(l[:95]))-countOthers(l[:95]), graph.Heads(l[:95])...))
	if _, e := graph.Add(l, id(96), next); e != api.ErrFull {
		t.Errorf("96 nodes: %d", e)
	}
	if _, e := graph.Add(l, id(96), update(0, 9, id(200))); e != api.ErrFull {
		t.Errorf("96 nodes, and a parent that is missing: %d", e)
	}
	if _, e := graph.Add(l, id(5), next); e != api.ErrThere {
		t.Errorf("96 nodes, and an Id that is there: %d", e)
	}
}

// countOthers is how many nodes are not of the author 0.
func countOthers(l []api.Node) uint32 {
	n := uint32(0)
	for _, x := range l {
		if x.Op.Author != 0 {
			n++
		}
	}
	return n
}

func TestP15_3Copies(t *testing.T) {
	l := append(make([]api.Node, 0, 9), diamond(t)...)
	o := update(0, 2, id(1), id(2))
	before := clone(l)
	got := mustAdd(t, l, id(4), o)
	if l[:5][4].Id != (api.Key{}) {
		t.Error("an argument's spare room is written to")
	}
	for i := range got {
		got[i].Op.Boxes[0].Body = "changed"
		if i > 0 {
			got[i].Op.Parents[0], got[i].Past[0] = api.Key{}, 77
		}
	}
	if !graph.Same(l, before) || o.Parents[0] == (api.Key{}) || o.Boxes[0].Body != "b" {
		t.Error("a result shares an argument's memory")
	}
}

func TestP15_4Heads(t *testing.T) {
	l := diamond(t)
	for n, want := range [][]api.Key{nil, {id(0)}, {id(1)}, sorted(id(1), id(2)), {id(3)}} {
		if got := graph.Heads(l[:n]); !slices.Equal(got, want) {
			t.Errorf("%d nodes: %x", n, got)
		}
	}
	wrong := clone(l)
	wrong[3].Op.Seq = 9
	if len(graph.Heads(l[1:])) != 0 || len(graph.Heads(wrong)) != 0 {
		t.Error("the heads of no graph")
	}
	wide := mustAdd(t, nil, id(0), create(0))
	var want []api.Key
	for i := 1; i < 8; i++ {
		wide = mustAdd(t, wide, id(i), update(i, 1, id(0)))
		want = append(want, id(i))
	}
	if got := graph.Heads(wide); !slices.Equal(got, sorted(want...)) {
		t.Errorf("seven heads: %x", got)
	}
}

func TestP15_5Precedence(t *testing.T) {
	r := rand.New(rand.NewSource(3))
	for range 15 {
		l := anyGraph(t, r, 2+r.Intn(18))
		for a := range l {
			if graph.Ahead(l, a, a) || graph.Apart(l, a, a) {
				t.Fatal("a node and itself")
			}
			for b := range l {
				_, want := ahead(l, b)[a]
				if graph.Ahead(l, a, b) != want || want && a >= b {
					t.Fatalf("Ahead %d %d", a, b)
				}
				if graph.Apart(l, a, b) != (a != b && !graph.Ahead(l, a, b) && !graph.Ahead(l, b, a)) {
					t.Fatalf("Apart %d %d", a, b)
				}
				for c := range l {
					if graph.Ahead(l, a, b) && graph.Ahead(l, b, c) && !graph.Ahead(l, a, c) {
						t.Fatalf("%d, %d and %d", a, b, c)
					}
				}
			}
		}
	}
}

// shuffled are the same operations in another order in which each comes behind its parents.
func shuffled(t *testing.T, r *rand.Rand, l []api.Node) []api.Node {
	t.Helper()
	var out []api.Node
	rest := slices.Clone(l)
	for len(rest) > 0 {
		at := r.Intn(len(rest))
		if next, e := graph.Add(out, rest[at].Id, rest[at].Op); e == api.OK {
			out = next
			rest = slices.Delete(rest, at, at+1)
		} else if e != api.ErrMissing && e != api.ErrSeq {
			t.Fatalf("Add: %d", e)
		}
	}
	return out
}

func TestP15_6AnyOrder(t *testing.T) {
	r := rand.New(rand.NewSource(4))
	for range 15 {
		l := anyGraph(t, r, 2+r.Intn(20))
		m := shuffled(t, r, l)
		if !slices.Equal(graph.Heads(l), graph.Heads(m)) {
			t.Fatal("other heads")
		}
		for a := range l {
			for b := range l {
				if graph.Ahead(l, a, b) != graph.Ahead(m, graph.Find(m, l[a].Id), graph.Find(m, l[b].Id)) {
					t.Fatal("other precedences")
				}
			}
		}
	}
}

func TestP15_7Heads(t *testing.T) {
	r := rand.New(rand.NewSource(5))
	for range 20 {
		l := anyGraph(t, r, 1+r.Intn(60))
		heads := graph.Heads(l)
		if len(heads) > 8 || len(heads) == 0 {
			t.Fatalf("%d heads", len(heads))
		}
		if all, e := graph.Past(l, heads...); e != api.OK || len(all) != len(l) {
			t.Fatalf("%d nodes of %d: %d", len(all), len(l), e)
		}
	}
}
