package wire_test

import (
	"math"
	"math/rand"
	"slices"
	"strings"
	"testing"

	"cabal/api"
	"cabal/wire"
)

func key(b byte) api.Key {
	var k api.Key
	for i := range k {
		k[i] = b + byte(i)
	}
	return k
}

func text(k api.Key) string { return string(k[:]) }

func TestP10_1Numbers(t *testing.T) {
	for _, x := range []struct {
		n     uint32
		bytes string
	}{
		{0, "\x00"}, {1, "\x01"}, {127, "\x7f"}, {128, "\x81\x00"}, {129, "\x81\x01"}, {255, "\x81\x7f"}, {256, "\x82\x00"},
		{1<<14 - 1, "\xff\x7f"}, {1 << 14, "\x81\x80\x00"}, {1<<21 - 1, "\xff\xff\x7f"}, {1 << 21, "\x81\x80\x80\x00"},
		{1<<28 - 1, "\xff\xff\xff\x7f"}, {1 << 28, "\x81\x80\x80\x80\x00"}, {1 << 31, "\x88\x80\x80\x80\x00"}, {math.MaxUint32, "\x8f\xff\xff\xff\x7f"},
	} {
		var w wire.Writer
		w.Numbers(x.n)
		if w.String() != x.bytes {
			t.Errorf("%d: %x", x.n, w.String())
		}
	}
	var w wire.Writer
	w.Numbers(0, 127, 128, math.MaxUint32)
	if w.String() != "\x00\x7f\x81\x00\x8f\xff\xff\xff\x7f" {
		t.Errorf("the document's example: %x", w.String())
	}
}

func TestP10_1Others(t *testing.T) {
	var w wire.Writer
	want := ""
	step := func(more string) {
		t.Helper()
		want += more
		if w.String() != want {
			t.Fatalf("%x, not %x", w.String(), want)
		}
	}
	step("")
	w.Texts("ab", "", strings.Repeat("x", 200))
	step("\x02ab\x00\x81\x48" + strings.Repeat("x", 200))
	w.Keys(key(1), key(2))
	step(text(key(1)) + text(key(2)))
	w.KeyList([]api.Key{key(3), key(1)})
	step("\x02" + text(key(3)) + text(key(1)))
	w.KeyList(nil)
	step("\x00")
	w.NumberList([]uint32{5, 300})
	step("\x02\x05\x82\x2c")
	w.NumberList(nil)
	step("\x00")
	w.Numbers()
	w.Texts()
	w.Keys()
	step("")
	w.Numbers(7)
	step("\x07")
}

func TestP10_2Number(t *testing.T) {
	for _, x := range []struct {
		bytes string
		n     uint32
		left  int
		e     api.Errno
	}{
		{"\x00", 0, 0, api.OK}, {"\x05\x06", 5, 1, api.ErrMore}, {"\x81\x00", 128, 0, api.OK}, {"\x8f\xff\xff\xff\x7f\x80", math.MaxUint32, 1, api.ErrMore},
		{"", 0, 0, api.ErrShort}, {"\x81", 0, 1, api.ErrShort}, {"\xff\xff", 0, 2, api.ErrShort}, {"\x8f\xff\xff\xff", 0, 4, api.ErrShort},
		{"\x80", 0, 1, api.ErrForm}, {"\x80\x01", 0, 2, api.ErrForm}, {"\x80\x80\x80\x80\x80\x80", 0, 6, api.ErrForm},
		{"\x90\x80\x80\x80\x00", 0, 5, api.ErrForm}, {"\xff\xff\xff\xff\x7f", 0, 5, api.ErrForm}, {"\x90\x80\x80\x80\x80\x00", 0, 6, api.ErrForm},
		{"\x81\x80\x80\x80\x80", 0, 5, api.ErrForm}, {"\x8f\xff\xff\xff\xff", 0, 5, api.ErrForm}, {"\x81\x80\x80\x80\x80\x00", 0, 6, api.ErrForm},
	} {
		r := wire.NewReader(x.bytes)
		if n := r.Number(); n != x.n || r.Left() != x.left || r.End() != x.e {
			t.Errorf("%x: %d, %d left, %d", x.bytes, n, r.Left(), r.End())
		}
	}
}

func TestP10_2Text(t *testing.T) {
	for _, x := range []struct {
		bytes string
		most  int
		s     string
		left  int
		e     api.Errno
	}{
		{"\x02ab", 2, "ab", 0, api.OK}, {"\x02abc", 100, "ab", 1, api.ErrMore}, {"\x00", 0, "", 0, api.OK}, {"\x00", -5, "", 0, api.OK},
		{"\x02ab", 1, "", 3, api.ErrMany}, {"\x01a", 0, "", 2, api.ErrMany}, {"\x01a", -1, "", 2, api.ErrMany}, {"\x03", 2, "", 1, api.ErrMany},
		{"\x03ab", 3, "", 3, api.ErrShort}, {"\x8f\xff\xff\xff\x7fab", math.MaxInt, "", 7, api.ErrShort}, {"", 5, "", 0, api.ErrShort}, {"\x81", 5, "", 1, api.ErrShort},
		{"\x80\x02ab", 5, "", 4, api.ErrForm},
	} {
		r := wire.NewReader(x.bytes)
		if s := r.Text(x.most); s != x.s || r.Left() != x.left || r.End() != x.e {
			t.Errorf("%x, at most %d: %q, %d left, %d", x.bytes, x.most, s, r.Left(), r.End())
		}
	}
}

func TestP10_2Key(t *testing.T) {
	r := wire.NewReader(text(key(1)) + text(key(2)) + text(key(3))[:31])
	if r.Key() != key(1) || r.Key() != key(2) || r.Left() != 31 || r.End() != api.ErrMore {
		t.Error("keys")
	}
	if r.Key() != (api.Key{}) || r.Left() != 31 || r.End() != api.ErrShort {
		t.Error("31 bytes")
	}
}

func TestP10_2KeyList(t *testing.T) {
	two := "\x02" + text(key(1)) + text(key(2))
	for _, x := range []struct {
		bytes string
		most  int
		n     int
		left  int
		e     api.Errno
	}{
		{two, 2, 2, 0, api.OK}, {two + "x", 99, 2, 1, api.ErrMore}, {"\x00", 0, 0, 0, api.OK}, {"\x00", -1, 0, 0, api.OK},
		{two, 1, 0, 65, api.ErrMany}, {two, -1, 0, 65, api.ErrMany}, {two[:64], 2, 0, 64, api.ErrShort}, {two[:20], 2, 0, 20, api.ErrShort},
		{two[:20], 1, 0, 20, api.ErrMany}, {"\x80", 1, 0, 1, api.ErrForm}, {"", 1, 0, 0, api.ErrShort},
		{"\x8f\xff\xff\xff\x7f" + text(key(1)), math.MaxInt, 0, 37, api.ErrShort},
	} {
		r := wire.NewReader(x.bytes)
		l := r.KeyList(x.most)
		if !slices.Equal(l, []api.Key{key(1), key(2)}[:x.n]) || r.Left() != x.left || r.End() != x.e {
			t.Errorf("%x, at most %d: %x, %d left, %d", x.bytes, x.most, l, r.Left(), r.End())
		}
	}
}

func TestP10_2NumberList(t *testing.T) {
	for _, x := range []struct {
		bytes string
		most  int
		l     []uint32
		left  int
		e     api.Errno
	}{
		{"\x03\x01\x81\x00\x03", 3, []uint32{1, 128, 3}, 0, api.OK}, {"\x00\x01", 3, nil, 1, api.ErrMore}, {"\x01\x05", 0, nil, 2, api.ErrMany}, {"\x01\x05", -9, nil, 2, api.ErrMany},
		{"\x03\x01\x02", 3, nil, 3, api.ErrShort}, {"\x03\x01\x81", 3, nil, 3, api.ErrShort}, {"\x03\x01\x80\x01", 3, nil, 4, api.ErrForm},
		{"\x02\x01\xff\xff\xff\xff\x7f", 3, nil, 7, api.ErrForm}, {"\x80", 3, nil, 1, api.ErrForm}, {"\x04\x80", 3, nil, 2, api.ErrMany},
	} {
		r := wire.NewReader(x.bytes)
		if l := r.NumberList(x.most); !slices.Equal(l, x.l) || r.Left() != x.left || r.End() != x.e {
			t.Errorf("%x, at most %d: %d, %d left, %d", x.bytes, x.most, l, r.Left(), r.End())
		}
	}
}

func TestP10_2AfterAFailure(t *testing.T) {
	for _, fail := range []func(r *wire.Reader){
		func(r *wire.Reader) { r.Text(0) },
		func(r *wire.Reader) { r.KeyList(0) },
		func(r *wire.Reader) { r.NumberList(0) },
	} {
		r := wire.NewReader("\x02\x01\x01" + strings.Repeat("\x01", 70))
		fail(r)
		for range 2 {
			if r.Number() != 0 || r.Text(9) != "" || r.Key() != (api.Key{}) || len(r.KeyList(9)) != 0 || len(r.NumberList(9)) != 0 {
				t.Error("something is read behind a failure")
			}
			if r.Left() != 73 || r.End() != api.ErrMany {
				t.Errorf("the failure changes: %d left, %d", r.Left(), r.End())
			}
		}
	}
}

func TestP10_3LeftAndEnd(t *testing.T) {
	if r := wire.NewReader(""); r.Left() != 0 || r.End() != api.OK {
		t.Error("no bytes")
	}
	r := wire.NewReader("\x01\x02")
	for left := 2; left > 0; left-- {
		if r.Left() != left || r.End() != api.ErrMore || r.End() != api.ErrMore {
			t.Errorf("%d left: %d, %d", left, r.Left(), r.End())
		}
		if int(r.Number()) != 3-left {
			t.Error("End lets reading fail")
		}
	}
	if r.Left() != 0 || r.End() != api.OK {
		t.Error("all is read")
	}
	r.Number()
	if r.Left() != 0 || r.End() != api.ErrShort {
		t.Error("more is read than there is")
	}
}

// part is something that can be written and read.
type part struct {
	kind    int
	numbers []uint32
	text    string
	keys    []api.Key
}

func anyPart(r *rand.Rand) part {
	p := part{kind: r.Intn(5), text: strings.Repeat("t", r.Intn(3)*r.Intn(100))}
	for range 1 + r.Intn(4) {
		p.numbers = append(p.numbers, r.Uint32()>>r.Intn(33))
		p.keys = append(p.keys, key(byte(r.Intn(256))))
	}
	return p
}

func (p part) write(w *wire.Writer) {
	switch p.kind {
	case 0:
		w.Numbers(p.numbers...)
	case 1:
		w.Texts(p.text, p.text)
	case 2:
		w.Keys(p.keys...)
	case 3:
		w.KeyList(p.keys)
	default:
		w.NumberList(p.numbers)
	}
}

// read says whether the part is what is read.
func (p part) read(r *wire.Reader) bool {
	switch p.kind {
	case 0:
		return !slices.ContainsFunc(p.numbers, func(n uint32) bool { return r.Number() != n })
	case 1:
		return r.Text(200) == p.text && r.Text(len(p.text)) == p.text
	case 2:
		return !slices.ContainsFunc(p.keys, func(k api.Key) bool { return r.Key() != k })
	case 3:
		return slices.Equal(r.KeyList(4), p.keys)
	default:
		return slices.Equal(r.NumberList(4), p.numbers)
	}
}

func TestP10_4And6WrittenAndCut(t *testing.T) {
	random := rand.New(rand.NewSource(1))
	for range 60 {
		var parts []part
		var w wire.Writer
		for range 1 + random.Intn(5) {
			p := anyPart(random)
			parts = append(parts, p)
			p.write(&w)
		}
		whole := w.String()
		r := wire.NewReader(whole)
		for _, p := range parts {
			if !p.read(r) {
				t.Fatalf("%v is not read", p)
			}
		}
		if r.End() != api.OK || r.Left() != 0 {
			t.Fatalf("%d left, %d", r.Left(), r.End())
		}
		for n := range whole {
			r := wire.NewReader(whole[:n])
			for _, p := range parts {
				p.read(r)
			}
			if r.End() != api.ErrShort {
				t.Fatalf("%d bytes of %d: %d", n, len(whole), r.End())
			}
		}
	}
}

func TestP10_5OneEncoding(t *testing.T) {
	alphabet := "\x00\x01\x7f\x80\x81\x8f\x90\xff"
	var walk func(s string)
	walk = func(s string) {
		r := wire.NewReader(s)
		n := r.Number()
		if used := len(s) - r.Left(); used > 0 {
			var w wire.Writer
			w.Numbers(n)
			if w.String() != s[:used] {
				t.Errorf("%x is read as %d, which is written as %x", s[:used], n, w.String())
			}
			return
		}
		if len(s) < 6 && r.End() == api.ErrShort {
			for _, b := range []byte(alphabet) {
				walk(s + string([]byte{b}))
			}
		}
	}
	walk("")
}
