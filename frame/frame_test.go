package frame_test

import (
	"fmt"
	"math"
	"math/rand"
	"slices"
	"strings"
	"testing"

	"cabal/api"
	"cabal/frame"
	"cabal/suite"
	"cabal/wire"
)

func key(b byte) api.Key { return api.Key{b, 1: 7, 31: b} }

// samples are valid operations of all kinds.
func samples() []api.Op {
	boxes := func(to ...int) []api.Box {
		var l []api.Box
		for _, who := range to {
			l = append(l, api.Box{To: who, Head: api.Head{Pub: key(byte(100 + who)), N: uint32(who), Prev: 300}, Body: strings.Repeat("b", 10*who)})
		}
		return l
	}
	return []api.Op{
		{Kind: api.OpCreate, Author: 0, Seq: 1, Who: []int{0}, Check: key(9)},
		{Kind: api.OpCreate, Author: 3, Seq: 1, Who: []int{0, 1, 2, 3, 4, 5, 6, 7}, Check: key(9), Boxes: boxes(0, 1, 2, 4, 5, 6, 7)},
		{Kind: api.OpAdd, Author: 2, Seq: 5, Parents: []api.Key{key(1)}, Who: []int{7}, Check: key(9), Boxes: boxes(0, 7)},
		{Kind: api.OpRemove, Author: 7, Seq: math.MaxUint32, Parents: []api.Key{key(1), key(2)}, Who: []int{0}, Check: key(9), Boxes: boxes(1)},
		{Kind: api.OpUpdate, Author: 1, Seq: 2, Parents: []api.Key{key(1), key(2), key(3), key(4), key(5), key(6), key(7), key(8)}, Check: key(9)},
		{Kind: api.OpAck, Author: 1, Seq: 200, Parents: []api.Key{key(4)}, Of: key(5), Check: key(9), Boxes: boxes(0)},
		{Kind: api.OpAddAck, Author: 1, Seq: 3, Parents: []api.Key{key(4)}, Of: key(5), Check: key(9), Boxes: boxes(2, 3)},
		{Kind: api.OpSay, Author: 1, Seq: 4, Parents: []api.Key{key(4)}, Text: "t", Boxes: boxes(0, 7)},
		{Kind: api.OpSay, Author: 1, Seq: 4, Parents: []api.Key{key(4)}, Text: strings.Repeat("t", 256)},
	}
}

// wrong are changes that make any operation invalid, or all of some kinds.
func wrong() map[string]func(*api.Op) {
	tooMany := func(n int) []api.Key {
		var l []api.Key
		for i := range n {
			l = append(l, key(byte(i+1)))
		}
		return l
	}
	return map[string]func(*api.Op){
		"kind 0":        func(o *api.Op) { o.Kind = 0 },
		"kind 8":        func(o *api.Op) { o.Kind = 8 },
		"kind -1":       func(o *api.Op) { o.Kind = -1 },
		"author -1":     func(o *api.Op) { o.Author = -1 },
		"author 8":      func(o *api.Op) { o.Author = 8 },
		"seq 0":         func(o *api.Op) { o.Seq = 0 },
		"nine parents":  func(o *api.Op) { o.Parents = tooMany(9) },
		"parents fall":  func(o *api.Op) { o.Parents = []api.Key{key(2), key(1)} },
		"parents twice": func(o *api.Op) { o.Parents = []api.Key{key(2), key(2)} },
		"create's parent": func(o *api.Op) {
			o.Kind, o.Seq, o.Who, o.Of, o.Text, o.Parents = 1, 1, []int{o.Author}, api.Key{}, "", tooMany(1)
		},
		"create's seq": func(o *api.Op) {
			o.Kind, o.Seq, o.Who, o.Of, o.Text, o.Parents = 1, 2, []int{o.Author}, api.Key{}, "", nil
		},
		"create, nobody":     func(o *api.Op) { o.Kind, o.Seq, o.Who, o.Of, o.Text, o.Parents = 1, 1, nil, api.Key{}, "", nil },
		"create, not author": func(o *api.Op) { o.Kind, o.Seq, o.Who, o.Parents = 1, 1, []int{(o.Author + 1) % 8}, nil },
		"who falls":          func(o *api.Op) { o.Kind, o.Seq, o.Who, o.Parents = 1, 1, []int{7, 6, 5, 4, 3, 2, 1, 0}, nil },
		"who twice":          func(o *api.Op) { o.Kind, o.Seq, o.Who, o.Parents = 1, 1, []int{o.Author, o.Author}, nil },
		"who 8":              func(o *api.Op) { o.Kind, o.Seq, o.Who, o.Parents = 1, 1, []int{o.Author, 8}, nil },
		"who -1":             func(o *api.Op) { o.Kind, o.Seq, o.Who, o.Parents = 1, 1, []int{-1, o.Author}, nil },
		"add nobody":         func(o *api.Op) { o.Kind, o.Who, o.Parents = 2, nil, tooMany(1) },
		"add two":            func(o *api.Op) { o.Kind, o.Who, o.Parents = 2, []int{5, 6}, tooMany(1) },
		"add oneself":        func(o *api.Op) { o.Kind, o.Who, o.Parents = 2, []int{o.Author}, tooMany(1) },
		"add 8":              func(o *api.Op) { o.Kind, o.Who, o.Parents = 2, []int{8}, tooMany(1) },
		"add -1":             func(o *api.Op) { o.Kind, o.Who, o.Parents = 2, []int{-1}, tooMany(1) },
		"remove oneself":     func(o *api.Op) { o.Kind, o.Who, o.Parents = 3, []int{o.Author}, tooMany(1) },
		"remove nobody":      func(o *api.Op) { o.Kind, o.Who, o.Parents = 3, nil, tooMany(1) },
		"update's who":       func(o *api.Op) { o.Kind, o.Who, o.Parents = 4, []int{(o.Author + 1) % 8}, tooMany(1) },
		"no parents":         func(o *api.Op) { o.Kind, o.Who, o.Parents = 4, nil, nil },
		"update's of":        func(o *api.Op) { o.Kind, o.Who, o.Parents, o.Of = 4, nil, tooMany(1), key(3) },
		"ack of nothing":     func(o *api.Op) { o.Kind, o.Who, o.Parents, o.Of = 5, nil, tooMany(1), api.Key{} },
		"addack of nothing":  func(o *api.Op) { o.Kind, o.Who, o.Parents, o.Of = 6, nil, tooMany(1), api.Key{} },
		"check turned":       func(o *api.Op) { o.Check = map[bool]api.Key{true: key(1), false: {}}[o.Kind == 7] },
		"text turned":        func(o *api.Op) { o.Text = map[bool]string{true: "", false: "t"}[o.Kind == 7] },
		"a long text":        func(o *api.Op) { o.Text = strings.Repeat("t", 257) },
		"a box for oneself":  func(o *api.Op) { o.Boxes = []api.Box{{To: o.Author}} },
		"a box for 8":        func(o *api.Op) { o.Boxes = []api.Box{{To: 8}} },
		"a box for -1":       func(o *api.Op) { o.Boxes = []api.Box{{To: -1}} },
		"boxes fall":         func(o *api.Op) { o.Boxes = []api.Box{{To: (o.Author+1)%7 + 1}, {To: 0}} },
		"boxes twice":        func(o *api.Op) { o.Boxes = []api.Box{{To: (o.Author + 1) % 8}, {To: (o.Author + 1) % 8}} },
		"a long body":        func(o *api.Op) { o.Boxes = []api.Box{{To: (o.Author + 1) % 8, Body: strings.Repeat("b", 257)}} },
	}
}

func TestP11_1Right(t *testing.T) {
	for i, o := range samples() {
		if !frame.Right(o) {
			t.Errorf("sample %d", i)
		}
		o.Boxes = nil
		if !frame.Right(o) {
			t.Errorf("sample %d without boxes", i)
		}
		o.Boxes = []api.Box{{To: (o.Author + 1) % 8, Body: strings.Repeat("b", 256)}}
		if !frame.Right(o) {
			t.Errorf("sample %d with a full box", i)
		}
	}
	for name, change := range wrong() {
		for i, o := range samples() {
			change(&o)
			if frame.Right(o) {
				t.Errorf("sample %d, %s", i, name)
			}
		}
	}
	if frame.Right(api.Op{}) {
		t.Error("the zero operation")
	}
}

func kits() []suite.Kit { return []suite.Kit{suite.Real{}, suite.NewFree()} }

func TestP11_1NameAndBy(t *testing.T) {
	for _, k := range kits() {
		for i, o := range samples() {
			title := fmt.Sprintf("op %d %d %d", o.Kind, o.Author, o.Seq)
			for _, who := range o.Who {
				title += fmt.Sprintf(" %d", who)
			}
			keys := append(slices.Clone(o.Parents), o.Of, o.Check)
			if o.Kind == api.OpSay {
				keys = append(keys, k.Mark(o.Text))
			}
			if frame.Name(k, o) != k.Hash(title, keys...) {
				t.Errorf("the name of sample %d", i)
			}
			if frame.By(k, o) != k.Hash(title, append(slices.Clone(o.Parents), o.Of, api.Key{})...) {
				t.Errorf("By of sample %d", i)
			}
		}
		for name, change := range wrong() {
			o := samples()[2]
			change(&o)
			if frame.Name(k, o) != (api.Key{}) || frame.By(k, o) != (api.Key{}) {
				t.Errorf("%s has a name", name)
			}
		}
	}
}

// frames are valid frames of all kinds.
func frames() []api.Frame {
	l := []api.Frame{
		{Kind: api.FrameHave, From: 0}, {Kind: api.FrameWant, From: 7},
		{Kind: api.FrameHave, From: 3, Ids: []api.Key{key(2), key(1), key(2)}}, {Kind: api.FrameWant, From: 1, Ids: make([]api.Key, 16)},
	}
	for i, o := range samples() {
		l = append(l, api.Frame{Kind: api.FrameOp, From: i % 8, Op: o})
	}
	return l
}

// bytesOf is a frame's bytes as the document says.
func bytesOf(f api.Frame) string {
	var w wire.Writer
	w.Numbers(uint32(f.Kind), uint32(f.From))
	if f.Kind != api.FrameOp {
		w.KeyList(f.Ids)
		return w.String()
	}
	w.Numbers(uint32(f.Op.Kind), uint32(f.Op.Author), f.Op.Seq)
	w.KeyList(f.Op.Parents)
	w.Numbers(uint32(len(f.Op.Who)))
	for _, who := range f.Op.Who {
		w.Numbers(uint32(who))
	}
	w.Keys(f.Op.Of, f.Op.Check)
	w.Texts(f.Op.Text)
	w.Numbers(uint32(len(f.Op.Boxes)))
	for _, b := range f.Op.Boxes {
		w.Numbers(uint32(b.To))
	}
	for _, b := range f.Op.Boxes {
		w.Keys(b.Head.Pub)
		w.Numbers(b.Head.N, b.Head.Prev)
		w.Texts(b.Body)
	}
	return w.String()
}

// wrongFrames are frames that may not be.
func wrongFrames() []api.Frame {
	l := []api.Frame{
		{}, {Kind: 4}, {Kind: -1}, {Kind: api.FrameOp}, {Kind: api.FrameHave, From: -1}, {Kind: api.FrameHave, From: 8}, {Kind: api.FrameWant, Ids: make([]api.Key, 17)},
	}
	for _, o := range samples() {
		l = append(l, api.Frame{Kind: api.FrameHave, Op: o}, api.Frame{Kind: api.FrameOp, From: 8, Op: o}, api.Frame{Kind: api.FrameOp, Op: o, Ids: make([]api.Key, 1)}, api.Frame{Op: o})
		for _, change := range wrong() {
			changed := o
			change(&changed)
			l = append(l, api.Frame{Kind: api.FrameOp, Op: changed})
		}
	}
	for _, part := range []api.Op{{Author: 1}, {Seq: 1}, {Kind: 1}, {Of: key(1)}, {Check: key(1)}, {Text: "t"}, {Parents: make([]api.Key, 1)}, {Who: make([]int, 1)}, {Boxes: make([]api.Box, 1)}} {
		l = append(l, api.Frame{Kind: api.FrameHave, Op: part}, api.Frame{Kind: api.FrameWant, Op: part})
	}
	return l
}

func TestP11_2Write(t *testing.T) {
	for i, f := range frames() {
		if s, e := frame.Write(f); e != api.OK || s != bytesOf(f) {
			t.Errorf("frame %d: %d, %x", i, e, s)
		}
	}
	for i, f := range wrongFrames() {
		if s, e := frame.Write(f); e != api.ErrArg || s != "" {
			t.Errorf("wrong frame %d: %d, %x", i, e, s)
		}
	}
}

func TestP11_2Read(t *testing.T) {
	for i, f := range frames() {
		s := bytesOf(f)
		if got, e := frame.Read(s); e != api.OK || !frame.Same(got, f) {
			t.Errorf("frame %d: %d, %v", i, e, got)
		}
		if got, e := frame.Read(s + "\x00"); e != api.ErrMore || !frame.Same(got, api.Frame{}) {
			t.Errorf("frame %d and a byte: %d", i, e)
		}
		for n := range s {
			if got, e := frame.Read(s[:n]); e != api.ErrShort || !frame.Same(got, api.Frame{}) {
				t.Fatalf("%d bytes of frame %d: %d", n, i, e)
			}
		}
	}
}

func TestP11_2ReadWrongFrames(t *testing.T) {
	big := api.Op{Kind: api.OpUpdate, Author: 1, Seq: 2, Parents: []api.Key{key(1)}, Check: key(1)}
	for i, f := range wrongFrames() {
		if f.Kind != api.FrameOp && !frame.Same(api.Frame{Op: f.Op}, api.Frame{}) {
			continue // its bytes don't show what is wrong
		}
		want := api.ErrForm
		switch o := f.Op; {
		case f.Kind == api.FrameOp && len(f.Ids) > 0:
			continue
		case len(f.Ids) > 16, len(o.Parents) > 8, len(o.Text) > 256, len(o.Boxes) > 0 && len(o.Boxes[0].Body) > 256:
			want = api.ErrMany
		}
		if got, e := frame.Read(bytesOf(f)); e != want || !frame.Same(got, api.Frame{}) {
			t.Errorf("wrong frame %d: %d, not %d", i, e, want)
		}
	}
	for i, change := range []func(f *api.Frame){
		func(f *api.Frame) { f.From = 1 << 31 }, func(f *api.Frame) { f.From = 1<<32 - 1 }, func(f *api.Frame) { f.Op.Author = 1<<32 - 1 },
		func(f *api.Frame) { f.Op.Kind = 1<<32 - 1 }, func(f *api.Frame) { f.Op.Boxes = []api.Box{{To: 1<<32 - 1}} }, func(f *api.Frame) { f.Op.Who = []int{1 << 31} },
	} {
		f := api.Frame{Kind: api.FrameOp, Op: big}
		change(&f)
		if _, e := frame.Read(bytesOf(f)); e != api.ErrForm {
			t.Errorf("number %d: %d", i, e)
		}
	}
	var w wire.Writer
	w.Numbers(1<<32-1, 2)
	w.KeyList([]api.Key{key(1)})
	if _, e := frame.Read(w.String()); e != api.ErrForm {
		t.Errorf("an unknown kind is not read as Ids: %d", e)
	}
}

func TestP11_2ReadLimits(t *testing.T) {
	good := api.Frame{Kind: api.FrameOp, Op: samples()[2]}
	for i, x := range []struct {
		change func(f *api.Frame)
		e      api.Errno
	}{
		{func(f *api.Frame) { f.Op.Who = []int{0, 1, 2, 3, 4, 5, 6, 7} }, api.ErrForm},
		{func(f *api.Frame) { f.Op.Who = []int{0, 1, 2, 3, 4, 5, 6, 7, 0} }, api.ErrMany},
		{func(f *api.Frame) { f.Op.Boxes = make([]api.Box, 8) }, api.ErrForm},
		{func(f *api.Frame) { f.Op.Boxes = make([]api.Box, 9) }, api.ErrMany},
		{func(f *api.Frame) { f.Op.Parents = make([]api.Key, 8) }, api.ErrForm},
		{func(f *api.Frame) { f.Op.Text = strings.Repeat("t", 256) }, api.ErrForm},
		{func(f *api.Frame) { f.Op.Text = strings.Repeat("t", 257); f.Op.Parents = make([]api.Key, 9) }, api.ErrMany},
	} {
		f := good
		x.change(&f)
		if _, e := frame.Read(bytesOf(f)); e != x.e {
			t.Errorf("case %d: %d, not %d", i, e, x.e)
		}
	}
	if _, e := frame.Read("\x80"); e != api.ErrForm {
		t.Errorf("leading zeros: %d", e)
	}
	if _, e := frame.Read("\x02\x01\x11" + strings.Repeat("k", 17*32)); e != api.ErrMany {
		t.Errorf("17 Ids: %d", e)
	}
}

func TestP11_1Same(t *testing.T) {
	l := frames()
	for _, change := range []func(f *api.Frame){
		func(f *api.Frame) { f.Kind++ }, func(f *api.Frame) { f.From++ }, func(f *api.Frame) { f.Ids = append(slices.Clone(f.Ids), key(1)) },
		func(f *api.Frame) { f.Op.Author++ }, func(f *api.Frame) { f.Op.Seq++ }, func(f *api.Frame) { f.Op.Kind++ },
		func(f *api.Frame) { f.Op.Parents = append(slices.Clone(f.Op.Parents), key(1)) }, func(f *api.Frame) { f.Op.Who = append(slices.Clone(f.Op.Who), 1) },
		func(f *api.Frame) { f.Op.Of[31]++ }, func(f *api.Frame) { f.Op.Check[0]++ }, func(f *api.Frame) { f.Op.Text += "t" },
		func(f *api.Frame) { f.Op.Boxes = append(slices.Clone(f.Op.Boxes), api.Box{}) },
		func(f *api.Frame) { f.Op.Boxes = []api.Box{{To: 9}} }, func(f *api.Frame) { f.Op.Boxes = []api.Box{{Body: "x"}} },
		func(f *api.Frame) { f.Op.Boxes = []api.Box{{Head: api.Head{N: 1}}} }, func(f *api.Frame) { f.Op.Boxes = []api.Box{{Head: api.Head{Prev: 1}}} },
	} {
		f := l[5]
		change(&f)
		l = append(l, f)
	}
	for i := range l {
		for j := range l {
			if frame.Same(l[i], l[j]) != (i == j) {
				t.Errorf("frames %d and %d", i, j)
			}
		}
	}
	if !frame.Same(api.Frame{}, api.Frame{Ids: []api.Key{}, Op: api.Op{Parents: []api.Key{}, Who: []int{}, Boxes: []api.Box{}}}) {
		t.Error("empty lists are not nil ones")
	}
}

func TestP11_3OneEncoding(t *testing.T) {
	r := rand.New(rand.NewSource(1))
	read := 0
	for _, f := range frames() {
		s, _ := frame.Write(f)
		for range 300 {
			b := []byte(s)
			for range r.Intn(3) {
				b[r.Intn(len(b))] ^= byte(1 << r.Intn(8))
			}
			got, e := frame.Read(string(b))
			if e != api.OK {
				continue
			}
			read++
			if again, e := frame.Write(got); e != api.OK || again != string(b) {
				t.Fatalf("%x is read, and written as %x", b, again)
			}
		}
	}
	if read < 300 {
		t.Errorf("only %d frames were read", read)
	}
}

func TestP11_4Names(t *testing.T) {
	k := suite.NewFree()
	var l []api.Op
	for _, o := range samples() {
		l = append(l, o)
		o.Seq++
		l = append(l, o)
		o.Check[3]++
		l = append(l, o)
		o.Of[3]++
		l = append(l, o)
		o.Text += "t"
		l = append(l, o)
		o.Parents = append(slices.Clone(o.Parents), key(250))
		l = append(l, o)
		o.Author = (o.Author + 4) % 8
		l = append(l, o)
	}
	names := map[api.Key]api.Op{}
	for _, o := range l {
		if !frame.Right(o) {
			continue
		}
		name := frame.Name(k, o)
		if other, ok := names[name]; ok {
			t.Errorf("%v and %v have one name", o, other)
		}
		names[name] = o
		o.Boxes = []api.Box{{To: (o.Author + 1) % 8, Body: "other"}}
		if frame.Name(k, o) != name || frame.By(k, o) == name {
			t.Errorf("%v: its boxes have a part in its name", o)
		}
	}
	if len(names) < 20 {
		t.Errorf("only %d operations", len(names))
	}
}
