package relay_test

import (
	"fmt"
	"math"
	"math/rand"
	"slices"
	"testing"

	"cabal/api"
	"cabal/relay"
)

// filled is a relay with the frames 0 to n - 1 for a member.
func filled(t *testing.T, to, n int) *relay.Relay {
	t.Helper()
	var r relay.Relay
	for i := range n {
		if e := r.Post(to, fmt.Sprint(i)); e != api.OK {
			t.Fatalf("Post: %d", e)
		}
	}
	return &r
}

func is(t *testing.T, r *relay.Relay, to int, want ...string) {
	t.Helper()
	if got := r.Mail(to); !slices.Equal(got, want) {
		t.Errorf("%q, not %q", got, want)
	}
}

func TestP23_1Post(t *testing.T) {
	var r relay.Relay
	for to := range 8 {
		is(t, &r, to)
		if e := r.Post(to, fmt.Sprint("to ", to)); e != api.OK {
			t.Errorf("Post %d: %d", to, e)
		}
		r.Post(to, "")
		is(t, &r, to, fmt.Sprint("to ", to), "")
	}
	for _, to := range []int{-1, 8, math.MaxInt, math.MinInt} {
		if e := r.Post(to, "x"); e != api.ErrArg {
			t.Errorf("Post %d: %d", to, e)
		}
		is(t, &r, to)
	}
	l := r.Mail(0)
	l[0] = "changed"
	_ = append(l[:1], "changed")
	is(t, &r, 0, "to 0", "")
}

func TestP23_1And4Full(t *testing.T) {
	r := filled(t, 3, 40)
	if l := r.Mail(3); len(l) != 40 || l[0] != "0" {
		t.Errorf("%d frames", len(l))
	}
	for i := 40; i < 50; i++ {
		r.Post(3, fmt.Sprint(i))
		if l := r.Mail(3); len(l) != 40 || l[0] != fmt.Sprint(i-39) || l[39] != fmt.Sprint(i) {
			t.Errorf("%d frames from %s to %s", len(l), l[0], l[39])
		}
	}
}

func TestP23_2TakeAndDrop(t *testing.T) {
	r := filled(t, 1, 4)
	if s, e := r.Take(1, 2); s != "2" || e != api.OK {
		t.Errorf("Take: %q, %d", s, e)
	}
	is(t, r, 1, "0", "1", "3")
	if e := r.Drop(1, 0); e != api.OK {
		t.Errorf("Drop: %d", e)
	}
	is(t, r, 1, "1", "3")
	if s, e := r.Take(1, 1); s != "3" || e != api.OK {
		t.Errorf("Take: %q, %d", s, e)
	}
	if s, e := r.Take(1, 0); s != "1" || e != api.OK {
		t.Errorf("Take: %q, %d", s, e)
	}
	is(t, r, 1)
}

func TestP23_2Double(t *testing.T) {
	r := filled(t, 1, 3)
	if e := r.Double(1, 1); e != api.OK {
		t.Errorf("Double: %d", e)
	}
	is(t, r, 1, "0", "1", "2", "1")
	r = filled(t, 1, 40)
	if e := r.Double(1, 0); e != api.OK {
		t.Errorf("Double: %d", e)
	}
	if l := r.Mail(1); len(l) != 40 || l[0] != "1" || l[39] != "0" {
		t.Errorf("%q", l)
	}
}

func TestP23_2Move(t *testing.T) {
	for i := range 4 {
		for k := range 4 {
			r := filled(t, 1, 4)
			want := slices.Insert(slices.Delete([]string{"0", "1", "2", "3"}, i, i+1), k, fmt.Sprint(i))
			if e := r.Move(1, i, k); e != api.OK {
				t.Errorf("Move %d %d: %d", i, k, e)
			}
			is(t, r, 1, want...)
		}
	}
	var r relay.Relay
	r.Post(1, "a")
	r.Post(1, "b")
	r.Move(1, 1, 0)
	if s, _ := r.Take(1, 0); s != "b" {
		t.Errorf("the document's example: %q", s)
	}
}

func TestP23_2Errors(t *testing.T) {
	r := filled(t, 1, 3)
	for _, x := range [][2]int{{1, 3}, {1, -1}, {1, math.MaxInt}, {0, 0}, {-1, 0}, {8, 0}, {math.MinInt, 0}} {
		if s, e := r.Take(x[0], x[1]); s != "" || e != api.ErrNone {
			t.Errorf("Take %d: %d", x, e)
		}
		if e := r.Drop(x[0], x[1]); e != api.ErrNone {
			t.Errorf("Drop %d: %d", x, e)
		}
		if e := r.Double(x[0], x[1]); e != api.ErrNone {
			t.Errorf("Double %d: %d", x, e)
		}
		for _, k := range []int{0, 3, -1} {
			if e := r.Move(x[0], x[1], k); e != api.ErrNone {
				t.Errorf("Move %d %d: %d", x, k, e)
			}
		}
	}
	for _, k := range []int{-1, 3, math.MaxInt} {
		if e := r.Move(1, 1, k); e != api.ErrArg {
			t.Errorf("Move to %d: %d", k, e)
		}
	}
	is(t, r, 1, "0", "1", "2")
	var none *relay.Relay
	s, e := none.Take(0, 0)
	if none.Post(0, "x") != api.ErrArg || none.Post(9, "x") != api.ErrArg || len(none.Mail(0)) != 0 || s != "" || e != api.ErrNone || none.Drop(0, 0) != api.ErrNone || none.Double(0, 0) != api.ErrNone || none.Move(0, 0, 0) != api.ErrNone {
		t.Error("a nil relay")
	}
}

func TestP23_3And4AnySteps(t *testing.T) {
	random := rand.New(rand.NewSource(1))
	var r relay.Relay
	posted := map[string]int{}
	for step := range 5000 {
		to := random.Intn(8)
		var before [8][]string
		for who := range before {
			before[who] = r.Mail(who)
		}
		i, k := random.Intn(42)-1, random.Intn(42)-1
		switch random.Intn(8) {
		case 0:
			r.Take(to, i)
		case 1:
			r.Drop(to, i)
		case 2:
			r.Double(to, i)
		case 3:
			r.Move(to, i, k)
		default:
			posted[fmt.Sprint(step)] = 1
			r.Post(to, fmt.Sprint(step))
		}
		for who := range before {
			now := r.Mail(who)
			if who != to && !slices.Equal(now, before[who]) {
				t.Fatal("another one's mail is changed")
			}
			if len(now) > 40 || slices.ContainsFunc(now, func(s string) bool { return posted[s] == 0 }) {
				t.Fatal("there is too much mail, or some that was never posted")
			}
		}
	}
}
