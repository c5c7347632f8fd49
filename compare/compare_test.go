package compare_test

import (
	"bytes"
	"math/rand"
	"slices"
	"testing"

	"cabal/api"
	"cabal/compare"
	"cabal/suite"
)

func kits() []suite.Kit { return []suite.Kit{suite.Real{}, suite.NewFree()} }

func order(a, b api.Key) int { return bytes.Compare(a[:], b[:]) }

// key is a key whose order is that of its number.
func key(n int) api.Key { return api.Key{byte(n >> 8), byte(n), 31: 1} }

func keys(l ...int) []api.Key {
	var out []api.Key
	for _, n := range l {
		out = append(out, key(n))
	}
	return out
}

// numbers are those from one on to below another one.
func numbers(from, below int) []int {
	var l []int
	for n := from; n < below; n++ {
		l = append(l, n)
	}
	return l
}

func sameRange(a, b api.Range) bool {
	return a.From == b.From && a.To == b.To && a.Told == b.Told && a.Print == b.Print && slices.Equal(a.Keys, b.Keys)
}

func printOf(k suite.Kit, l []api.Key) api.Key { return k.Hash("set", l...) }

// wrongSets are lists that are no sets.
func wrongSets() [][]api.Key {
	return [][]api.Key{keys(numbers(0, 201)...), keys(2, 1), keys(1, 1), keys(1, 2, 3, 3)}
}

// wrongRanges are ranges that may not be.
func wrongRanges() []api.Range {
	return []api.Range{
		{From: key(5), To: key(5)}, {From: key(5), To: key(4)}, {From: key(5), To: api.Key{31: 1}}, {Keys: keys(1)}, {From: key(1), To: key(9), Print: key(3), Keys: keys(2)},
		{Told: true, Print: key(1)}, {Told: true, Keys: keys(2, 1)}, {Told: true, Keys: keys(2, 2)}, {From: key(3), Told: true, Keys: keys(2, 4)}, {From: key(3), To: key(5), Told: true, Keys: keys(3, 5)}, {To: key(5), Told: true, Keys: keys(1, 6)},
		{From: key(5), To: key(4), Told: true},
	}
}

func TestP29_1Right(t *testing.T) {
	for i, r := range []api.Range{
		{}, {Print: key(7)}, {From: key(1), To: key(2)}, {From: key(1), Print: key(2)}, {Told: true}, {From: key(3), To: key(6), Told: true, Keys: keys(3, 4, 5)}, {From: key(3), Told: true, Keys: keys(3, 9)}, {Told: true, Keys: append([]api.Key{{}}, keys(1)...)},
		{Told: true, Keys: keys(numbers(0, 500)...)},
	} {
		if !compare.Right(r) {
			t.Errorf("range %d", i)
		}
	}
	for i, r := range wrongRanges() {
		if compare.Right(r) {
			t.Errorf("wrong range %d", i)
		}
	}
}

func TestP29_1Begin(t *testing.T) {
	for _, k := range kits() {
		for _, n := range []int{0, 1, 3, 4, 200} {
			set := keys(numbers(0, n)...)
			l, e := compare.Begin(k, set)
			if e != api.OK || len(l) != 1 || !sameRange(l[0], api.Range{Print: printOf(k, set)}) {
				t.Errorf("%d keys: %d, %v", n, e, l)
			}
		}
		for i, set := range wrongSets() {
			if l, e := compare.Begin(k, set); e != api.ErrArg || len(l) != 0 {
				t.Errorf("wrong set %d: %d", i, e)
			}
		}
	}
}

func TestP29_2Errors(t *testing.T) {
	k := suite.NewFree()
	good, many := keys(1, 2), make([]api.Range, 401)
	for i, x := range []struct {
		set []api.Key
		l   []api.Range
		e   api.Errno
	}{
		{wrongSets()[0], many, api.ErrArg}, {wrongSets()[1], nil, api.ErrArg}, {wrongSets()[2], wrongRanges(), api.ErrArg}, {good, many, api.ErrMany}, {good, append(many, wrongRanges()...), api.ErrMany}, {good, many[:400], api.OK}, {good, nil, api.OK}, {nil, nil, api.OK},
	} {
		more, give, want, e := compare.Answer(k, x.set, x.l)
		if e != x.e || e != api.OK && len(more)+len(give)+len(want) > 0 {
			t.Errorf("case %d: %d, not %d", i, e, x.e)
		}
	}
	for i, r := range wrongRanges() {
		more, give, want, e := compare.Answer(k, good, []api.Range{{}, r, {Told: true}})
		if e != api.ErrForm || len(more)+len(give)+len(want) > 0 {
			t.Errorf("wrong range %d: %d", i, e)
		}
	}
}

func TestP29_2Told(t *testing.T) {
	k := suite.NewFree()
	set := keys(1, 3, 5, 7, 9)
	for i, x := range []struct {
		l          []api.Range
		give, want []api.Key
	}{
		{[]api.Range{{Told: true}}, set, nil}, {[]api.Range{{Told: true, Keys: set}}, nil, nil}, {[]api.Range{{Told: true, Keys: keys(2, 3, 4, 9, 10)}}, keys(1, 5, 7), keys(2, 4, 10)},
		{[]api.Range{{From: key(3), To: key(7), Told: true, Keys: keys(4)}}, keys(3, 5), keys(4)}, {[]api.Range{{From: key(4), Told: true, Keys: keys(8)}}, keys(5, 7, 9), keys(8)},
		{[]api.Range{{From: key(5), Told: true, Keys: keys(6)}, {To: key(6), Told: true, Keys: keys(0, 2)}, {From: key(6), To: key(8), Told: true, Keys: keys(6)}}, set, keys(0, 2, 6)},
	} {
		more, give, want, e := compare.Answer(k, set, x.l)
		if e != api.OK || len(more) > 0 || !slices.Equal(give, x.give) || !slices.Equal(want, x.want) {
			t.Errorf("case %d: %d, %v, %x, %x", i, e, more, give, want)
		}
	}
}

func TestP29_2Prints(t *testing.T) {
	for _, k := range kits() {
		set := keys(numbers(0, 30)...)
		in := func(from, below int) api.Key { return printOf(k, set[from:below]) }
		other := key(900)
		for i, x := range []struct {
			r    api.Range
			want []api.Range
		}{
			{api.Range{Print: in(0, 30)}, nil}, {api.Range{From: key(4), To: key(9), Print: in(4, 9)}, nil}, {api.Range{From: key(50), Print: in(0, 0)}, nil},
			{api.Range{From: key(50), Print: other}, []api.Range{{From: key(50), Told: true}}},
			{api.Range{From: key(4), To: key(5)}, []api.Range{{From: key(4), To: key(5), Told: true, Keys: keys(4)}}},
			{api.Range{From: key(27), Print: other}, []api.Range{{From: key(27), Told: true, Keys: keys(27, 28, 29)}}},
			{api.Range{From: key(26), Print: other}, []api.Range{{From: key(26), To: key(27), Print: in(26, 27)}, {From: key(27), To: key(28), Print: in(27, 28)}, {From: key(28), To: key(29), Print: in(28, 29)}, {From: key(29), Print: in(29, 30)}}},
			{api.Range{To: key(7), Print: other}, []api.Range{{To: key(2), Print: in(0, 2)}, {From: key(2), To: key(4), Print: in(2, 4)}, {From: key(4), To: key(6), Print: in(4, 6)}, {From: key(6), To: key(7), Print: in(6, 7)}}},
			{api.Range{Print: other}, []api.Range{{To: key(8), Print: in(0, 8)}, {From: key(8), To: key(16), Print: in(8, 16)}, {From: key(16), To: key(23), Print: in(16, 23)}, {From: key(23), Print: in(23, 30)}}},
			{api.Range{From: api.Key{0, 9, 31: 2}, To: key(19), Print: in(10, 20)}, []api.Range{{From: api.Key{0, 9, 31: 2}, To: key(13), Print: in(10, 13)}, {From: key(13), To: key(15), Print: in(13, 15)}, {From: key(15), To: key(17), Print: in(15, 17)}, {From: key(17), To: key(19), Print: in(17, 19)}}},
		} {
			more, give, want, e := compare.Answer(k, set, []api.Range{x.r})
			if e != api.OK || len(give)+len(want) > 0 || !slices.EqualFunc(more, x.want, sameRange) {
				t.Errorf("case %d: %d, %v, not %v", i, e, more, x.want)
			}
			for _, r := range more {
				if !compare.Right(r) {
					t.Errorf("case %d: an answer that may not be: %v", i, r)
				}
			}
		}
		more, _, _, _ := compare.Answer(k, set, []api.Range{{From: key(29)}, {Told: true, Keys: set}, {To: key(1)}})
		if !slices.EqualFunc(more, []api.Range{{From: key(29), Told: true, Keys: keys(29)}, {To: key(1), Told: true, Keys: keys(0)}}, sameRange) {
			t.Errorf("several ranges: %v", more)
		}
	}
}

func TestP29_2Copies(t *testing.T) {
	k := suite.NewFree()
	set := keys(1, 3, 5)
	told := api.Range{Told: true, Keys: keys(2, 4)}
	more, give, want, _ := compare.Answer(k, set, []api.Range{{Print: key(8)}, told, {Print: key(9)}})
	more[0].Keys[0], give[0], want[0] = api.Key{9}, api.Key{9}, api.Key{9}
	if !slices.Equal(set, keys(1, 3, 5)) || !slices.Equal(told.Keys, keys(2, 4)) || more[1].Keys[0] != key(1) {
		t.Error("results share memory")
	}
}

// some are so many of the numbers below 300.
func some(r *rand.Rand, n int) []api.Key {
	l := keys(r.Perm(300)[:n]...)
	slices.SortFunc(l, order)
	return l
}

func united(a, b []api.Key) []api.Key {
	l := slices.Concat(a, b)
	slices.SortFunc(l, order)
	return slices.Compact(l)
}

func TestP29_3Convergence(t *testing.T) {
	r := rand.New(rand.NewSource(1))
	for round := range 120 {
		k := suite.NewFree()
		common := some(r, r.Intn(100))
		sets := [2][]api.Key{united(common, some(r, r.Intn(r.Intn(40)+1))), united(common, some(r, r.Intn(r.Intn(40)+1)))}
		all := united(sets[0], sets[1])
		l, e := compare.Begin(k, sets[0])
		if e != api.OK {
			t.Fatal(e)
		}
		steps := 0
		for who := 1; len(l) > 0; who = 1 - who {
			more, give, want, e := compare.Answer(k, sets[who], l)
			if e != api.OK || steps > 12 {
				t.Fatalf("round %d, answer %d: %d", round, steps, e)
			}
			if slices.ContainsFunc(want, func(x api.Key) bool { return !slices.Contains(sets[1-who], x) }) || slices.ContainsFunc(give, func(x api.Key) bool { return !slices.Contains(sets[who], x) }) {
				t.Fatal("what is wanted or given is not there")
			}
			sets[who], sets[1-who] = united(sets[who], want), united(sets[1-who], give)
			l = more
			steps++
		}
		if !slices.Equal(sets[0], all) || !slices.Equal(sets[1], all) {
			t.Fatalf("round %d: %d and %d of %d keys", round, len(sets[0]), len(sets[1]), len(all))
		}
	}
}

func TestP29_4SameSet(t *testing.T) {
	r := rand.New(rand.NewSource(2))
	for _, k := range kits() {
		for n := range 201 {
			set := some(r, n)
			l, _ := compare.Begin(k, set)
			if more, give, want, e := compare.Answer(k, set, l); e != api.OK || len(more)+len(give)+len(want) > 0 {
				t.Errorf("%d keys: %d, %d, %d, %d", n, e, len(more), len(give), len(want))
			}
		}
	}
}
