package queue_test

import (
	"bytes"
	"math"
	"math/rand"
	"slices"
	"testing"

	"cabal/api"
	"cabal/graph"
	"cabal/queue"
)

func id(n int) api.Key { return api.Key{byte(n * 37), byte(n), 31: 1} }

func sorted(l ...api.Key) []api.Key {
	slices.SortFunc(l, func(a, b api.Key) int { return bytes.Compare(a[:], b[:]) })
	return slices.Compact(l)
}

// held is a valid operation that waits, with these parents.
func held(n int, parents ...api.Key) api.Held {
	o := api.Op{Kind: api.OpUpdate, Author: 1, Seq: 7, Parents: sorted(parents...), Check: api.Key{1}, Boxes: []api.Box{{To: 2, Body: "b"}}}
	return api.Held{Id: id(n), Op: o, Got: []api.Key{id(n + 1)}}
}

func create(n int) api.Held {
	return api.Held{Id: id(n), Op: api.Op{Kind: api.OpCreate, Author: 0, Seq: 1, Who: []int{0, 1}, Check: api.Key{1}}}
}

// nodes is a graph with the nodes 0 to n - 1, one behind the other.
func nodes(t *testing.T, n int) []api.Node {
	t.Helper()
	var l []api.Node
	for i := range n {
		o := api.Op{Kind: api.OpUpdate, Author: 0, Seq: uint32(i + 1), Check: api.Key{1}}
		if i == 0 {
			o.Kind, o.Who = api.OpCreate, []int{0, 1}
		} else {
			o.Parents = []api.Key{id(i - 1)}
		}
		next, e := graph.Add(l, id(i), o)
		if e != api.OK {
			t.Fatal(e)
		}
		l = next
	}
	return l
}

// many is a queue of n elements.
func many(n int) []api.Held {
	var q []api.Held
	for i := range n {
		q = append(q, held(100+i, id(0)))
	}
	return q
}

func clone(q []api.Held) []api.Held {
	q = slices.Clone(q)
	for i := range q {
		q[i].Got = slices.Clone(q[i].Got)
		q[i].Op.Parents = slices.Clone(q[i].Op.Parents)
		q[i].Op.Boxes = slices.Clone(q[i].Op.Boxes)
	}
	return q
}

// wrong are lists that are no queues.
func wrong() [][]api.Held {
	bad := held(3, id(0))
	bad.Op.Check = api.Key{}
	return [][]api.Held{many(25), {held(1, id(0)), held(2, id(0)), held(1, id(2))}, {held(1, id(0)), bad}, {{}}}
}

func TestP19_1Right(t *testing.T) {
	for _, q := range [][]api.Held{nil, {}, many(1), many(24), {create(1), held(2, id(50), id(51))}} {
		if !queue.Right(q) {
			t.Errorf("%d elements", len(q))
		}
	}
	for i, q := range wrong() {
		if queue.Right(q) {
			t.Errorf("wrong list %d", i)
		}
	}
}

func TestP19_1FindAndSame(t *testing.T) {
	q := []api.Held{held(1, id(0)), held(2, id(0)), held(1, id(2))}
	if queue.Find(q, id(1)) != 0 || queue.Find(q, id(2)) != 1 || queue.Find(q, id(3)) != -1 || queue.Find(nil, api.Key{}) != -1 {
		t.Error("Find")
	}
	l := [][]api.Held{nil, q[:1], q[:2], {q[1], q[0]}}
	for _, change := range []func(h *api.Held){
		func(h *api.Held) { h.Id[31]++ }, func(h *api.Held) { h.Got = nil }, func(h *api.Held) { h.Got = []api.Key{id(9)} }, func(h *api.Held) { h.Op.Seq++ },
		func(h *api.Held) { h.Op.Boxes[0].Body = "c" }, func(h *api.Held) { h.Op.Parents = nil },
	} {
		c := clone(q[:2])
		change(&c[1])
		l = append(l, c)
	}
	for i := range l {
		for j := range l {
			if queue.Same(l[i], clone(l[j])) != (i == j) {
				t.Errorf("Same of %d and %d", i, j)
			}
		}
	}
	if !queue.Same(nil, []api.Held{}) || !queue.Same([]api.Held{{}}, []api.Held{{Got: []api.Key{}}}) {
		t.Error("nil and empty")
	}
}

func TestP19_2Put(t *testing.T) {
	q, h := many(3), held(1, id(0))
	got, e := queue.Put(q, h)
	if e != api.OK || !queue.Same(got, append(clone(q), h)) {
		t.Errorf("Put: %d", e)
	}
	bad := h
	bad.Op.Seq = 0
	there := held(101, id(5))
	badThere := bad
	badThere.Id = id(101)
	for i, x := range []struct {
		q []api.Held
		h api.Held
		e api.Errno
	}{
		{many(25), h, api.ErrArg}, {wrong()[1], h, api.ErrArg}, {q, bad, api.ErrArg}, {q, badThere, api.ErrArg}, {many(24), bad, api.ErrArg},
		{q, held(100, id(5)), api.ErrThere}, {q, there, api.ErrThere}, {many(24), there, api.ErrThere}, {many(24), h, api.ErrFull}, {many(23), h, api.OK}, {nil, h, api.OK}, {q, create(1), api.OK},
	} {
		if got, e := queue.Put(x.q, x.h); e != x.e || e != api.OK && len(got) != 0 {
			t.Errorf("case %d: %d, not %d", i, e, x.e)
		}
	}
}

func TestP19_2Without(t *testing.T) {
	q := many(4)
	for at := range q {
		got, e := queue.Without(q, at)
		if e != api.OK || !queue.Same(got, slices.Delete(clone(q), at, at+1)) {
			t.Errorf("Without %d: %d", at, e)
		}
	}
	for _, at := range []int{-1, 4, math.MaxInt, math.MinInt} {
		if got, e := queue.Without(q, at); e != api.ErrNone || len(got) != 0 {
			t.Errorf("Without %d: %d", at, e)
		}
	}
	for i, q := range wrong() {
		for _, at := range []int{0, 99} {
			if got, e := queue.Without(q, at); e != api.ErrArg || len(got) != 0 {
				t.Errorf("wrong list %d: %d", i, e)
			}
		}
	}
}

func TestP19_2Copies(t *testing.T) {
	q := append(make([]api.Held, 0, 9), many(3)...)
	before, h := clone(q), held(1, id(0))
	put, _ := queue.Put(q, h)
	without, _ := queue.Without(q, 0)
	for _, l := range [][]api.Held{put, without} {
		for i := range l {
			l[i].Op.Boxes[0].Body, l[i].Op.Parents[0], l[i].Got[0] = "changed", api.Key{}, api.Key{}
		}
	}
	if !queue.Same(q, before) || q[:4][3].Id != (api.Key{}) || !queue.Same([]api.Held{h}, []api.Held{held(1, id(0))}) {
		t.Error("a result shares an argument's memory")
	}
}

func TestP19_3Ready(t *testing.T) {
	l := nodes(t, 3)
	for i, x := range []struct {
		q    []api.Held
		want int
	}{
		{nil, -1}, {[]api.Held{held(50, id(2))}, 0}, {[]api.Held{held(50, id(0), id(1), id(2))}, 0}, {[]api.Held{held(50, id(3))}, -1}, {[]api.Held{held(50, id(2), id(3))}, -1},
		{[]api.Held{held(50, id(9)), held(51, id(50)), held(52, id(1)), held(53, id(1))}, 2}, {[]api.Held{held(50, id(9)), create(51)}, 1}, {[]api.Held{held(50, id(51)), held(51, id(50))}, -1},
	} {
		if got := queue.Ready(l, x.q); got != x.want {
			t.Errorf("case %d: %d, not %d", i, got, x.want)
		}
	}
	if queue.Ready(nil, []api.Held{held(50, id(0)), create(51)}) != 1 || queue.Ready(l[1:], []api.Held{create(51)}) != -1 {
		t.Error("the empty graph, or no graph")
	}
	for i, q := range wrong() {
		if queue.Ready(l, q) != -1 {
			t.Errorf("wrong list %d", i)
		}
	}
}

func TestP19_3Wanted(t *testing.T) {
	l := nodes(t, 3)
	for i, x := range []struct {
		q    []api.Held
		want []api.Key
	}{
		{nil, nil}, {[]api.Held{held(50, id(2)), create(51)}, nil}, {[]api.Held{held(50, id(2), id(3))}, []api.Key{id(3)}}, {[]api.Held{held(50, id(51)), held(51, id(50))}, nil},
		{[]api.Held{held(50, id(9), id(8), id(7)), held(51, id(50), id(7), id(1)), held(52, id(6), id(9))}, sorted(id(6), id(7), id(8), id(9))},
	} {
		if got := queue.Wanted(l, x.q); !slices.Equal(got, x.want) {
			t.Errorf("case %d: %x, not %x", i, got, x.want)
		}
	}
	if got := queue.Wanted(nil, many(5)); !slices.Equal(got, []api.Key{id(0)}) {
		t.Errorf("the empty graph: %x", got)
	}
	if len(queue.Wanted(l[1:], []api.Held{held(50, id(9))})) != 0 {
		t.Error("no graph")
	}
	for i, q := range wrong() {
		if len(queue.Wanted(l, q)) != 0 {
			t.Errorf("wrong list %d", i)
		}
	}
}

func TestP19_4ReadyUnlessWanted(t *testing.T) {
	r := rand.New(rand.NewSource(1))
	for range 300 {
		l := nodes(t, 1+r.Intn(5))
		var q []api.Held
		for i := range 1 + r.Intn(10) { // each names nodes, or others that are held
			var parents []api.Key
			for range 1 + r.Intn(3) {
				if n := r.Intn(len(l) + i); n < len(l) {
					parents = append(parents, id(n))
				} else {
					parents = append(parents, id(100+n-len(l)))
				}
			}
			q = append(q, held(100+i, parents...))
		}
		r.Shuffle(len(q), func(i, j int) { q[i], q[j] = q[j], q[i] })
		if r.Intn(2) == 0 {
			q = q[:len(q)-r.Intn(len(q))]
		}
		for len(q) > 0 && len(queue.Wanted(l, q)) == 0 {
			at := queue.Ready(l, q)
			if at < 0 {
				t.Fatal("nothing is wanted, and nothing is ready")
			}
			q, _ = queue.Without(q, at)
		}
	}
}
