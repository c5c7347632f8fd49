package save_test

import (
	"fmt"
	"math"
	"math/rand"
	"strings"
	"testing"

	"cabal/api"
	"cabal/frame"
	"cabal/graph"
	"cabal/member"
	"cabal/save"
	"cabal/suite"
	"cabal/wire"
)

// crowd are members of a group, after some steps, some of which were lost.
func crowd(t *testing.T, k suite.Kit, seed int64) []api.Member {
	t.Helper()
	var ids, pres [8]api.Key
	for i := range 4 {
		ids[i], pres[i] = k.Pub(k.Draw(fmt.Sprint("id ", i))), k.Pub(k.Draw(fmt.Sprint("pre ", i)))
	}
	var l []api.Member
	for i := range 4 {
		s, e := member.New(k, i, 4, k.Draw(fmt.Sprint("id ", i)), k.Draw(fmt.Sprint("pre ", i)), ids, pres)
		if e != api.OK {
			t.Fatal(e)
		}
		l = append(l, s)
	}
	r := rand.New(rand.NewSource(seed))
	var mail []api.Post
	do := func(who int, in api.Input) {
		next, posts, _ := member.Do(k, l[who], in)
		l[who] = next
		for _, p := range posts {
			if r.Intn(6) > 0 {
				mail = append(mail, p)
			}
		}
	}
	do(0, api.Input{Kind: api.InCreate, Who: []int{0, 1, 2}})
	for range 120 {
		if r.Intn(5) == 0 || len(mail) == 0 {
			do(r.Intn(4), api.Input{Kind: []int{api.InAdd, api.InUpdate, api.InSay, api.InTick}[r.Intn(4)], Who: []int{3}, Text: "text"})
			continue
		}
		at := r.Intn(len(mail))
		p := mail[at]
		mail = append(mail[:at:at], mail[at+1:]...)
		do(p.To, api.Input{Kind: api.InTake, Frame: p.Frame})
	}
	return l
}

// full is a member that has something of everything.
func full(t *testing.T) api.Member {
	t.Helper()
	s := crowd(t, suite.NewFree(), 1)[0]
	op := s.Nodes[1].Op
	s.Sessions[7] = api.Session{Mine: api.Key{1}, Theirs: api.Key{2}, Root: api.Key{3}, Send: api.Key{4}, Recv: api.Key{5}, Ns: 200, Nr: math.MaxUint32, Pn: 7, Turn: true, Skips: []api.Skip{{Pub: api.Key{6}, N: 300, Key: api.Key{7}}}}
	s.Keys.Ratchets[5], s.Keys.Ratchets[6], s.Keys.Ratchets[7] = api.Ratchet{Known: true, Key: api.Key{8}}, api.Ratchet{Lost: true, Chain: api.Key{9}}, api.Ratchet{Known: true, Lost: true}
	s.Keys.Waits = []api.Wait{{Of: api.Key{10}, Who: 7, Key: api.Key{11}}, {}}
	s.Held = []api.Held{{Id: api.Key{12}, Op: op, Got: []api.Key{{13}, {14}}}, {Id: api.Key{15}, Op: op}}
	s.Inbox = []api.Letter{{Id: api.Key{16}, Author: 7, Text: strings.Repeat("x", 64)}, {}}
	s.Draws = 1 << 30
	return s
}

// bytesOf is a member's bytes as the document says.
func bytesOf(s api.Member) string {
	number := map[bool]uint32{true: 1}
	op := func(o api.Op) string {
		f, _ := frame.Write(api.Frame{Kind: api.FrameOp, Op: o})
		return f
	}
	var w wire.Writer
	w.Numbers(uint32(s.Me), uint32(s.Members), s.Draws)
	for _, k := range s.Ids {
		w.Keys(k)
	}
	for _, k := range s.Pres {
		w.Keys(k)
	}
	for _, x := range s.Sessions {
		w.Keys(x.Mine, x.Theirs, x.Root, x.Send, x.Recv)
		w.Numbers(x.Ns, x.Nr, x.Pn, number[x.Turn], uint32(len(x.Skips)))
		for _, y := range x.Skips {
			w.Keys(y.Pub)
			w.Numbers(y.N)
			w.Keys(y.Key)
		}
	}
	w.Numbers(uint32(len(s.Nodes)))
	for _, n := range s.Nodes {
		w.Keys(n.Id)
		w.Texts(op(n.Op))
	}
	for _, x := range s.Keys.Ratchets {
		w.Numbers(number[x.Known] + 2*number[x.Lost])
		w.Keys(x.Key, x.Chain)
	}
	w.Numbers(uint32(len(s.Keys.Waits)))
	for _, x := range s.Keys.Waits {
		w.Keys(x.Of)
		w.Numbers(uint32(x.Who))
		w.Keys(x.Key)
	}
	w.Numbers(uint32(len(s.Held)))
	for _, x := range s.Held {
		w.Keys(x.Id)
		w.Texts(op(x.Op))
		w.KeyList(x.Got)
	}
	w.Numbers(uint32(len(s.Inbox)))
	for _, x := range s.Inbox {
		w.Keys(x.Id)
		w.Numbers(uint32(x.Author))
		w.Texts(x.Text)
	}
	return w.String()
}

func TestP21_1Write(t *testing.T) {
	l := append(crowd(t, suite.NewFree(), 2), crowd(t, suite.Real{}, 3)...)
	for i, s := range append(l, full(t), api.Member{Members: 1}) {
		if b, e := save.Write(s); e != api.OK || b != bytesOf(s) {
			t.Errorf("member %d: %d", i, e)
		}
	}
}

func TestP21_1NotEncodable(t *testing.T) {
	for name, change := range map[string]func(s *api.Member){
		"not valid":             func(s *api.Member) { s.Members = 9 },
		"no graph":              func(s *api.Member) { s.Nodes = s.Nodes[1:] },
		"17 skips":              func(s *api.Member) { s.Sessions[7].Skips = make([]api.Skip, 17) },
		"769 waits":             func(s *api.Member) { s.Keys.Waits = make([]api.Wait, 769) },
		"a wait of 8":           func(s *api.Member) { s.Keys.Waits = []api.Wait{{}, {Who: 8}} },
		"a wait of -1":          func(s *api.Member) { s.Keys.Waits = []api.Wait{{Who: -1}} },
		"17 keys in a box":      func(s *api.Member) { s.Held[1].Got = make([]api.Key, 17) },
		"97 letters":            func(s *api.Member) { s.Inbox = make([]api.Letter, 97) },
		"a letter of 8":         func(s *api.Member) { s.Inbox[1].Author = 8 },
		"a letter of -1":        func(s *api.Member) { s.Inbox[1].Author = -1 },
		"a letter of 65 bytes":  func(s *api.Member) { s.Inbox[0].Text += "x" },
		"an operation held bad": func(s *api.Member) { s.Held[0].Op.Seq = 0 },
	} {
		s := full(t)
		change(&s)
		if b, e := save.Write(s); e != api.ErrArg || b != "" {
			t.Errorf("%s: %d", name, e)
		}
	}
	for name, change := range map[string]func(s *api.Member){
		"16 skips":         func(s *api.Member) { s.Sessions[7].Skips = make([]api.Skip, 16) },
		"768 waits":        func(s *api.Member) { s.Keys.Waits = make([]api.Wait, 768) },
		"16 keys in a box": func(s *api.Member) { s.Held[1].Got = make([]api.Key, 16) },
		"96 letters":       func(s *api.Member) { s.Inbox = make([]api.Letter, 96) },
	} {
		s := full(t)
		change(&s)
		b, e := save.Write(s)
		if got, f := save.Read(b); e != api.OK || f != api.OK || !member.Same(got, s) {
			t.Errorf("%s: %d, %d", name, e, f)
		}
	}
}

func TestP21_2Read(t *testing.T) {
	s := full(t)
	b := bytesOf(s)
	got, e := save.Read(b)
	if e != api.OK || !member.Same(got, s) || !graph.Same(got.Nodes, s.Nodes) {
		t.Errorf("Read: %d", e)
	}
	for n := range b {
		if got, e := save.Read(b[:n]); e != api.ErrForm || !member.Same(got, api.Member{}) {
			t.Fatalf("%d bytes: %d", n, e)
		}
	}
	for _, more := range []string{"\x00", "x", b} {
		if got, e := save.Read(b + more); e != api.ErrForm || !member.Same(got, api.Member{}) {
			t.Errorf("%d bytes more: %d", len(more), e)
		}
	}
}

// These are bytes like a member's, with a change that no encodable member has.
func TestP21_2ReadWhatIsNotEncodable(t *testing.T) {
	for name, change := range map[string]func(s *api.Member){
		"no members":            func(s *api.Member) { s.Members = 0 },
		"another one":           func(s *api.Member) { s.Me = 4 },
		"a great number":        func(s *api.Member) { s.Me = math.MaxUint32 },
		"a graph's order":       func(s *api.Member) { s.Nodes[0], s.Nodes[1] = s.Nodes[1], s.Nodes[0] },
		"a node twice":          func(s *api.Member) { s.Nodes = append(s.Nodes, s.Nodes[1]) },
		"a node's Id":           func(s *api.Member) { s.Nodes[0].Id[0]++ },
		"a node's operation":    func(s *api.Member) { s.Nodes[1].Op.Seq++ },
		"17 skips":              func(s *api.Member) { s.Sessions[7].Skips = make([]api.Skip, 17) },
		"769 waits":             func(s *api.Member) { s.Keys.Waits = make([]api.Wait, 769) },
		"a wait of 8":           func(s *api.Member) { s.Keys.Waits[0].Who = 8 },
		"held twice":            func(s *api.Member) { s.Held[1].Id = s.Held[0].Id },
		"held and a node":       func(s *api.Member) { s.Held[1].Id = s.Nodes[0].Id },
		"17 keys in a box":      func(s *api.Member) { s.Held[1].Got = make([]api.Key, 17) },
		"97 letters":            func(s *api.Member) { s.Inbox = make([]api.Letter, 97) },
		"a letter of 8":         func(s *api.Member) { s.Inbox[1].Author = 8 },
		"a letter of 65 bytes":  func(s *api.Member) { s.Inbox[0].Text += "x" },
		"no operation":          func(s *api.Member) { s.Held[0].Op.Seq = 0 },
		"25 that wait":          func(s *api.Member) { s.Held = manyHeld(s.Held[0].Op, 25) },
		"a great wait's number": func(s *api.Member) { s.Keys.Waits[0].Who = math.MaxUint32 },
	} {
		s := full(t)
		change(&s)
		if got, e := save.Read(bytesOf(s)); e != api.ErrForm || !member.Same(got, api.Member{}) {
			t.Errorf("%s: %d", name, e)
		}
	}
}

func manyHeld(o api.Op, n int) []api.Held {
	var l []api.Held
	for i := range n {
		l = append(l, api.Held{Id: api.Key{1, byte(i)}, Op: o})
	}
	return l
}

func TestP21_2OtherForms(t *testing.T) {
	s := full(t)
	s.Held, s.Inbox, s.Keys.Waits = nil, nil, nil
	b := bytesOf(s)
	// A node's bytes with another From, a Turn of 2, flags of 4, and longer forms of numbers.
	o, _ := frame.Write(api.Frame{Kind: api.FrameOp, Op: s.Nodes[0].Op})
	from, _ := frame.Write(api.Frame{Kind: api.FrameOp, From: 1, Op: s.Nodes[0].Op})
	ids, _ := frame.Write(api.Frame{Kind: api.FrameHave})
	text := func(s string) string {
		var w wire.Writer
		w.Texts(s)
		return w.String()
	}
	session := strings.Index(b, string(s.Sessions[7].Recv[:])+"\x81\x48") // 200 is 81 48
	turn := session + 32 + 2 + 5 + 1
	if session < 0 || b[turn] != 1 {
		t.Fatal("a test's place is off")
	}
	for name, c := range map[string]string{
		"another From":    strings.Replace(b, text(o), text(from), 1),
		"another kind":    strings.Replace(b, text(o), text(ids), 1),
		"a byte in an op": strings.Replace(b, text(o), text(o+"\x00"), 1),
		"a Turn of 2":     b[:turn] + "\x02" + b[turn+1:],
		"a long number":   "\x80" + b,
		"flags of 4":      strings.Replace(b, "\x03"+strings.Repeat("\x00", 67), "\x04"+strings.Repeat("\x00", 67), 1),
	} {
		if c == b {
			t.Errorf("%s: a test's change is none", name)
		}
		if _, e := save.Read(c); e != api.ErrForm {
			t.Errorf("%s: %d", name, e)
		}
	}
	if _, e := save.Read(b); e != api.OK {
		t.Errorf("the member itself: %d", e)
	}
}

func TestP21_2AnyBytes(t *testing.T) {
	r := rand.New(rand.NewSource(1))
	b := bytesOf(full(t))
	for range 1500 {
		c := []byte(b)
		for range 1 + r.Intn(2) {
			c[r.Intn(len(c))] = byte(r.Intn(256))
		}
		got, e := save.Read(string(c))
		if e == api.OK {
			if again, f := save.Write(got); f != api.OK || again != string(c) {
				t.Fatalf("what is read is written as something else: %d", f)
			}
		} else if e != api.ErrForm || !member.Same(got, api.Member{}) {
			t.Fatalf("%d", e)
		}
	}
}

func inputs(t *testing.T) []api.Input {
	s := full(t)
	l := []api.Input{
		{Kind: api.InCreate, Who: []int{0, 7, 3, 3, 1, 2, 4, 5}, Text: strings.Repeat("x", 64)}, {Kind: api.InTick}, {Kind: api.InSay, Text: "t"}, {Kind: api.InUpdate},
		{Kind: api.InTake, Frame: api.Frame{Kind: api.FrameHave, From: 7, Ids: make([]api.Key, 16)}}, {Kind: api.InAdd, Who: []int{1}}, {Kind: api.InRemove, Who: []int{1}},
	}
	for _, n := range s.Nodes {
		l = append(l, api.Input{Kind: api.InTake, Who: []int{2}, Text: "t", Frame: api.Frame{Kind: api.FrameOp, From: 3, Op: n.Op}})
	}
	return l
}

func inputBytes(in api.Input) string {
	f, _ := frame.Write(in.Frame)
	var w wire.Writer
	w.Numbers(uint32(in.Kind), uint32(len(in.Who)))
	for _, who := range in.Who {
		w.Numbers(uint32(who))
	}
	w.Texts(in.Text, f)
	return w.String()
}

func sameInput(a, b api.Input) bool {
	return a.Kind == b.Kind && a.Text == b.Text && fmt.Sprint(a.Who) == fmt.Sprint(b.Who) && frame.Same(a.Frame, b.Frame)
}

func TestP21_1And2Inputs(t *testing.T) {
	for i, in := range inputs(t) {
		b, e := save.WriteInput(in)
		if e != api.OK || b != inputBytes(in) {
			t.Errorf("input %d: %d, %x", i, e, b)
		}
		if got, e := save.ReadInput(b); e != api.OK || !sameInput(got, in) {
			t.Errorf("input %d: %d, %v", i, e, got)
		}
		for n := range b {
			if got, e := save.ReadInput(b[:n]); e != api.ErrForm || !sameInput(got, api.Input{}) {
				t.Fatalf("%d bytes of input %d: %d", n, i, e)
			}
		}
		if _, e := save.ReadInput(b + "\x00"); e != api.ErrForm {
			t.Errorf("input %d and a byte: %d", i, e)
		}
	}
}

func TestP21_1And2WrongInputs(t *testing.T) {
	have := api.Frame{Kind: api.FrameHave, From: 1}
	for i, in := range []api.Input{
		{}, {Kind: 8}, {Kind: -1}, {Kind: api.InSay, Text: strings.Repeat("x", 65)}, {Kind: api.InAdd, Who: []int{8}}, {Kind: api.InAdd, Who: []int{-1}}, {Kind: api.InCreate, Who: make([]int, 9)},
		{Kind: api.InTick, Frame: have}, {Kind: api.InSay, Frame: api.Frame{From: 1}}, {Kind: api.InTake}, {Kind: api.InTake, Frame: api.Frame{Kind: api.FrameHave, From: 8}}, {Kind: api.InTake, Frame: have, Text: strings.Repeat("x", 65)},
		{Kind: api.InTake, Frame: have, Who: []int{9}}, {Kind: api.InUpdate, Frame: api.Frame{Op: api.Op{Seq: 1}}},
	} {
		if b, e := save.WriteInput(in); e != api.ErrArg || b != "" {
			t.Errorf("input %d: %d", i, e)
		}
		if b := inputBytes(in); i < 8 || i > 8 && i < 13 {
			if got, e := save.ReadInput(b); e != api.ErrForm || !sameInput(got, api.Input{}) {
				t.Errorf("the bytes of input %d: %d", i, e)
			}
		}
	}
	for _, b := range []string{"", "\x07\x00\x00\x01x", "\x80\x07\x00\x00\x00", "\x06\x00\x00\x03\x02\x01\x05", "\x06\x00\x00\x00", "\x02\x01\x81\x00\x00\x00"} {
		if _, e := save.ReadInput(b); e != api.ErrForm {
			t.Errorf("%x: %d", b, e)
		}
	}
}

func TestP21_3Members(t *testing.T) {
	for seed := range int64(6) {
		for i, s := range crowd(t, suite.NewFree(), 10+seed) {
			b, e := save.Write(s)
			if e != api.OK {
				t.Fatalf("seed %d, member %d: %d", seed, i, e)
			}
			if got, e := save.Read(b); e != api.OK || !member.Same(got, s) {
				t.Fatalf("seed %d, member %d: %d", seed, i, e)
			}
		}
	}
}
