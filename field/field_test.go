package field_test

import (
	"math/big"
	"math/rand"
	"slices"
	"testing"

	"cabal/api"
	"cabal/field"
)

func prime() *big.Int {
	p := new(big.Int).Lsh(big.NewInt(1), 255)
	return p.Sub(p, big.NewInt(19))
}

// keyOf is a number of at most 256 bits as 32 bytes.
func keyOf(n *big.Int) api.Key {
	b := make([]byte, 32)
	n.FillBytes(b)
	slices.Reverse(b)
	return api.Key(b)
}

// bigOf is the number of an element.
func bigOf(e field.Elem) *big.Int {
	k := e.Bytes()
	slices.Reverse(k[:])
	return new(big.Int).SetBytes(k[:])
}

func elem(n *big.Int) field.Elem { return field.From(keyOf(new(big.Int).Mod(n, prime()))) }

// numbers are edges, and some of all sizes.
func numbers() []*big.Int {
	var l []*big.Int
	for i := range int64(40) {
		l = append(l, big.NewInt(i), new(big.Int).Sub(prime(), big.NewInt(i+1)))
	}
	for _, n := range []uint{51, 63, 64, 65, 127, 128, 191, 192, 204, 254} {
		x := new(big.Int).Lsh(big.NewInt(1), n)
		l = append(l, x, new(big.Int).Sub(x, big.NewInt(1)))
	}
	r := rand.New(rand.NewSource(1))
	for range 60 {
		l = append(l, new(big.Int).Rand(r, prime()))
	}
	return l
}

func TestP6_1FromAndBytes(t *testing.T) {
	check := func(k api.Key) {
		t.Helper()
		little := k
		little[31] &= 127
		slices.Reverse(little[:])
		want := new(big.Int).Mod(new(big.Int).SetBytes(little[:]), prime())
		if got := field.From(k); got.Bytes() != keyOf(want) {
			t.Errorf("From(%x) = %x", k, got.Bytes())
		}
	}
	r := rand.New(rand.NewSource(2))
	for range 300 {
		var k api.Key
		r.Read(k[:])
		check(k)
	}
	for i := range int64(60) { // around the prime, with and without the bit that is ignored
		n := new(big.Int).Add(prime(), big.NewInt(i-30))
		if n.BitLen() < 256 {
			k := keyOf(n)
			check(k)
			k[31] ^= 128
			check(k)
		}
	}
	var all api.Key
	for i := range all {
		all[i] = 0xff
	}
	check(all)
	if field.From(all).Bytes() != (api.Key{0x12}) {
		t.Error("the document's example")
	}
	if (field.Elem{}).Bytes() != (api.Key{}) || !(field.Elem{}).Is(field.Small(0)) {
		t.Error("the zero value is not 0")
	}
}

func TestP6_1SmallAndIs(t *testing.T) {
	for _, n := range []uint32{0, 1, 18, 19, 255, 256, 121665, 1<<31 - 1, 1 << 31, 1<<32 - 1} {
		if field.Small(n).Bytes() != (api.Key{byte(n), byte(n >> 8), byte(n >> 16), byte(n >> 24)}) {
			t.Errorf("Small(%d) = %x", n, field.Small(n).Bytes())
		}
	}
	l := numbers()
	for i, a := range l {
		for j, b := range l {
			if elem(a).Is(elem(b)) != (a.Cmp(b) == 0) {
				t.Errorf("Is of the numbers %d and %d", i, j)
			}
		}
	}
	if !field.From(keyOf(prime())).Is(field.Small(0)) || !elem(big.NewInt(18)).Is(field.Small(19).Plus(elem(big.NewInt(-1)))) {
		t.Error("one element in two forms")
	}
}

func TestP6_2Operations(t *testing.T) {
	l := numbers()
	for _, a := range l {
		for _, b := range l {
			x, y := elem(a), elem(b)
			if got := x.Plus(y); bigOf(got).Cmp(new(big.Int).Mod(new(big.Int).Add(a, b), prime())) != 0 {
				t.Fatalf("%x + %x = %x", a, b, got.Bytes())
			}
			if got := x.Minus(y); bigOf(got).Cmp(new(big.Int).Mod(new(big.Int).Sub(a, b), prime())) != 0 {
				t.Fatalf("%x - %x = %x", a, b, got.Bytes())
			}
			if got := x.Times(y); bigOf(got).Cmp(new(big.Int).Mod(new(big.Int).Mul(a, b), prime())) != 0 {
				t.Fatalf("%x * %x = %x", a, b, got.Bytes())
			}
		}
		want := new(big.Int).ModInverse(a, prime())
		if want == nil {
			want = new(big.Int)
		}
		if got := elem(a).Inverse(); bigOf(got).Cmp(want) != 0 {
			t.Errorf("the inverse of %x is %x", a, got.Bytes())
		}
	}
}

func TestP6_2Several(t *testing.T) {
	a, b, c, d := field.Small(1000), field.Small(200), field.Small(30), field.Small(4)
	if !a.Plus(b, c, d).Is(field.Small(1234)) || !a.Times(b, c, d).Is(field.Small(24000000)) {
		t.Error("several operands")
	}
	if !a.Plus().Is(a) || !a.Times().Is(a) || !a.Plus(nil...).Is(a) {
		t.Error("no operands")
	}
	if !(field.Elem{}).Inverse().Is(field.Elem{}) {
		t.Error("the inverse of 0")
	}
	l := []field.Elem{b, c}
	a.Plus(l...)
	a.Times(l...)
	if !l[0].Is(b) || !l[1].Is(c) {
		t.Error("operands are changed")
	}
}

func TestP6_3Choose(t *testing.T) {
	a, b := field.Small(1), elem(big.NewInt(-1))
	if x, y := field.Choose(false, a, b); !x.Is(a) || !y.Is(b) {
		t.Error("without a swap")
	}
	if x, y := field.Choose(true, a, b); !x.Is(b) || !y.Is(a) {
		t.Error("with a swap")
	}
}

func TestP6_4And5Laws(t *testing.T) {
	r := rand.New(rand.NewSource(3))
	l := numbers()
	for range 500 {
		a, b, c := elem(l[r.Intn(len(l))]), elem(l[r.Intn(len(l))]), elem(l[r.Intn(len(l))])
		if !a.Plus(b, c).Is(c.Plus(a, b)) || !a.Times(b, c).Is(c.Times(a, b)) {
			t.Error("the order of operands matters")
		}
		if !a.Times(b.Plus(c)).Is(a.Times(b).Plus(a.Times(c))) {
			t.Error("multiplication does not distribute over addition")
		}
		if !a.Plus(b).Minus(b).Is(a) || !a.Minus(b).Plus(b).Is(a) {
			t.Error("what was added is not subtracted")
		}
	}
	for _, n := range l {
		if a := elem(n); !a.Is(field.Elem{}) && !a.Times(a.Inverse()).Is(field.Small(1)) {
			t.Errorf("%x and its inverse", n)
		}
	}
}
