package vault_test

import (
	"fmt"
	"math/rand"
	"slices"
	"strings"
	"testing"

	"cabal/api"
	"cabal/disk"
	"cabal/frame"
	"cabal/journal"
	"cabal/member"
	"cabal/ratchet"
	"cabal/save"
	"cabal/suite"
	"cabal/vault"
)

// newMember is a member of n that has done nothing.
func newMember(t *testing.T, k suite.Kit, me, n int) api.Member {
	t.Helper()
	var ids, pres [8]api.Key
	for i := range n {
		ids[i], pres[i] = k.Pub(k.Draw(fmt.Sprint("id ", i))), k.Pub(k.Draw(fmt.Sprint("pre ", i)))
	}
	s, e := member.New(k, me, n, k.Draw(fmt.Sprint("id ", me)), k.Draw(fmt.Sprint("pre ", me)), ids, pres)
	if e != api.OK {
		t.Fatal(e)
	}
	return s
}

func newVault(t *testing.T, k suite.Kit, d *disk.Disk, me, n int) *vault.Vault {
	t.Helper()
	v, e := vault.New(k, d, newMember(t, k, me, n))
	if e != api.OK {
		t.Fatalf("New: %d", e)
	}
	return v
}

func bytesOf(t *testing.T, s api.Member) string {
	t.Helper()
	b, e := save.Write(s)
	if e != api.OK {
		t.Fatalf("Write: %d", e)
	}
	return b
}

// records are those of the journal on a disk.
func records(t *testing.T, d *disk.Disk) []string {
	t.Helper()
	j, e := journal.Open(d)
	if e != api.OK {
		t.Fatalf("Open: %d", e)
	}
	return j.Records()
}

func samePosts(a, b []api.Post) bool {
	return slices.EqualFunc(a, b, func(x, y api.Post) bool { return x.To == y.To && frame.Same(x.Frame, y.Frame) })
}

func create(who ...int) api.Input { return api.Input{Kind: api.InCreate, Who: who} }

func say(text string) api.Input { return api.Input{Kind: api.InSay, Text: text} }

func TestP22_1New(t *testing.T) {
	for _, k := range []suite.Kit{suite.Real{}, suite.NewFree()} {
		s := newMember(t, k, 1, 3)
		d := disk.New(100)
		v, e := vault.New(k, d, s)
		if e != api.OK || !member.Same(v.Member(), s) || v.Room() != 49*256-len(bytesOf(t, s))-3 {
			t.Fatalf("New: %d", e)
		}
		if l := records(t, d); len(l) != 1 || l[0] != "s"+bytesOf(t, s) {
			t.Errorf("%d records", len(l))
		}
		d.Crash()
		if l := records(t, d); len(l) != 1 {
			t.Errorf("%d records behind a crash", len(l))
		}
		if v, e := vault.New(k, d, s); v != nil || e != api.ErrThere {
			t.Errorf("a disk that has records: %d", e)
		}
	}
}

func TestP22_1NewErrors(t *testing.T) {
	k := suite.NewFree()
	s := newMember(t, k, 0, 2)
	bad := s
	bad.Members = 9
	spoilt, written, dying, dead := disk.New(100), disk.New(100), disk.New(100), disk.New(100)
	spoilt.Write(0, strings.Repeat("x", 256))
	written.Write(0, strings.Repeat("x", 256))
	dying.Fuse(3)
	dead.Fuse(0)
	dead.Sync()
	for i, x := range []struct {
		d *disk.Disk
		s api.Member
		e api.Errno
	}{
		{disk.New(100), bad, api.ErrArg}, {spoilt, bad, api.ErrArg}, {nil, s, api.ErrArg}, {disk.New(2), s, api.ErrArg}, {spoilt, s, api.ErrSpoilt},
		{disk.New(9), s, api.ErrFull}, {dying, s, api.ErrDead}, {dead, s, api.ErrDead},
	} {
		if v, e := vault.New(k, x.d, x.s); v != nil || e != x.e {
			t.Errorf("case %d: %d, not %d", i, e, x.e)
		}
	}
}

func TestP22_2Open(t *testing.T) {
	for _, k := range []suite.Kit{suite.Real{}, suite.NewFree()} {
		d := disk.New(200)
		v := newVault(t, k, d, 0, 3)
		for _, in := range []api.Input{create(0, 1), say("a"), {Kind: api.InUpdate}, say("b")} {
			if _, e := v.Do(in); e != api.OK {
				t.Fatal(e)
			}
		}
		var blocks []string
		for at := range 200 {
			b, _ := d.Read(at)
			blocks = append(blocks, b)
		}
		d.Fuse(0)
		again, e := vault.Open(k, d)
		if e != api.OK || !member.Same(again.Member(), v.Member()) || again.Room() != v.Room() || d.Dead() {
			t.Errorf("Open: %d", e)
		}
		for at, b := range blocks {
			if now, _ := d.Read(at); now != b {
				t.Errorf("Open writes block %d", at)
			}
		}
		d.Fuse(-1)
		for _, x := range []*vault.Vault{v, again} {
			if _, e := x.Do(api.Input{Kind: api.InTick}); e != api.OK {
				t.Error(e)
			}
		}
	}
}

func TestP22_2OpenErrors(t *testing.T) {
	k := suite.NewFree()
	s := newMember(t, k, 0, 2)
	whole := "s" + bytesOf(t, s)
	input := func(in api.Input) string {
		b, e := save.WriteInput(in)
		if e != api.OK {
			t.Fatal(e)
		}
		return "i" + b
	}
	good := input(create(0, 1))
	for i, x := range []struct {
		l []string
		e api.Errno
	}{
		{nil, api.ErrSpoilt}, {[]string{whole}, api.OK}, {[]string{whole, good}, api.OK}, {[]string{whole, good, input(say("t"))}, api.OK},
		{[]string{good}, api.ErrSpoilt}, {[]string{""}, api.ErrSpoilt}, {[]string{"s"}, api.ErrSpoilt}, {[]string{whole[1:]}, api.ErrSpoilt}, {[]string{whole + "x"}, api.ErrSpoilt}, {[]string{"i" + whole[1:]}, api.ErrSpoilt},
		{[]string{"S" + whole[1:]}, api.ErrSpoilt}, {[]string{whole, whole}, api.ErrSpoilt}, {[]string{whole, ""}, api.ErrSpoilt}, {[]string{whole, "i"}, api.ErrSpoilt}, {[]string{whole, good + "x"}, api.ErrSpoilt},
		{[]string{whole, good[1:]}, api.ErrSpoilt}, {[]string{whole, input(say("t"))}, api.ErrSpoilt}, {[]string{whole, good, good}, api.ErrSpoilt}, {[]string{good, whole}, api.ErrSpoilt},
	} {
		d := disk.New(100)
		j, _ := journal.Open(d)
		if e := j.Append(x.l...); e != api.OK {
			t.Fatal(e)
		}
		if v, e := vault.Open(k, d); e != x.e || (v == nil) != (e != api.OK) {
			t.Errorf("case %d: %d, not %d", i, e, x.e)
		}
	}
	spoilt := disk.New(100)
	spoilt.Write(0, strings.Repeat("x", 256))
	for d, want := range map[*disk.Disk]api.Errno{nil: api.ErrArg, disk.New(2): api.ErrArg, disk.New(9): api.ErrSpoilt, spoilt: api.ErrSpoilt} {
		if v, e := vault.Open(k, d); v != nil || e != want {
			t.Errorf("%d blocks: %d, not %d", d.Blocks(), e, want)
		}
	}
}

func TestP22_3Do(t *testing.T) {
	k := suite.NewFree()
	d := disk.New(200)
	v := newVault(t, k, d, 0, 3)
	expect := func(in api.Input) {
		t.Helper()
		want, wantPosts, wantErr := member.Do(k, v.Member(), in)
		before, room := records(t, d), v.Room()
		posts, e := v.Do(in)
		if e != wantErr || !samePosts(posts, wantPosts) || !member.Same(v.Member(), want) {
			t.Errorf("%v: %d, not %d", in, e, wantErr)
		}
		after := records(t, d)
		if e != api.OK || in.Kind == api.InTick {
			if !slices.Equal(after, before) || v.Room() != room {
				t.Errorf("%v is written, and changes nothing", in)
			}
			return
		}
		b, _ := save.WriteInput(in)
		if !slices.Equal(after, append(before, "i"+b)) || v.Room() >= room {
			t.Errorf("%v is not written", in)
		}
	}
	expect(api.Input{})
	expect(say("too early"))
	expect(create(0, 1))
	expect(create(0, 1))
	expect(api.Input{Kind: api.InTick})
	expect(say("a"))
	expect(api.Input{Kind: api.InAdd, Who: []int{2}})
	expect(api.Input{Kind: api.InAdd, Who: []int{2}})
	expect(api.Input{Kind: api.InTake, Frame: api.Frame{Kind: api.FrameOp}})
	d.Fuse(0) // nothing is to be written for what changes nothing
	if posts, e := v.Do(api.Input{Kind: api.InTick}); e != api.OK || len(posts) != 2 || d.Dead() {
		t.Errorf("a tick: %d, %d posts", e, len(posts))
	}
	before := v.Member()
	if posts, e := v.Do(say("b")); e != api.ErrDead || len(posts) > 0 || !member.Same(v.Member(), before) {
		t.Errorf("a disk that dies: %d", e)
	}
}

func TestP22_3NotEncodable(t *testing.T) {
	k := suite.NewFree()
	d := disk.New(400)
	v := newVault(t, k, d, 0, 2)
	before := v.Member()
	for _, in := range []api.Input{{Kind: api.InCreate, Who: []int{0}, Text: strings.Repeat("x", 65)}, {Kind: api.InCreate, Who: []int{0}, Frame: api.Frame{From: 1}}} {
		if _, _, e := member.Do(k, before, in); e != api.OK {
			t.Fatalf("the input is refused by the member: %d", e)
		}
		if posts, e := v.Do(in); e != api.ErrArg || len(posts) > 0 || !member.Same(v.Member(), before) || len(records(t, d)) != 1 {
			t.Errorf("an input that is not encodable: %d", e)
		}
	}
	s := newMember(t, k, 0, 2)
	s.Keys.Waits = make([]api.Wait, 768)
	d = disk.New(1000)
	v, e := vault.New(k, d, s)
	if e != api.OK {
		t.Fatal(e)
	}
	if posts, e := v.Do(create(0, 1)); e != api.ErrArg || len(posts) > 0 || !member.Same(v.Member(), s) || len(records(t, d)) != 1 {
		t.Errorf("a member that is not encodable: %d", e)
	}
	if _, e := v.Do(create(0)); e != api.OK {
		t.Errorf("a member that is encodable: %d", e)
	}
}

// junk is an operation that comes to a member of two and is dropped: just a session changes by it.
func junk(t *testing.T, k suite.Kit, sender *api.Session, v *vault.Vault, n int) api.Input {
	t.Helper()
	o := api.Op{Kind: api.OpUpdate, Author: 1, Seq: uint32(1000 + n), Parents: []api.Key{v.Member().Nodes[0].Id}, Check: api.Key{1}, Boxes: []api.Box{{To: 0}}}
	next, h, body, e := ratchet.Send(k, *sender, fmt.Sprint("junk ", n), frame.Name(k, o))
	if e != api.OK {
		t.Fatal(e)
	}
	*sender, o.Boxes[0].Head, o.Boxes[0].Body = next, h, body
	return api.Input{Kind: api.InTake, Frame: api.Frame{Kind: api.FrameOp, From: 1, Op: o}}
}

func TestP22_3And6Full(t *testing.T) {
	k := suite.NewFree()
	for _, blocks := range []int{31, 32, 40} {
		d := disk.New(blocks)
		v := newVault(t, k, d, 0, 2)
		sender := newMember(t, k, 1, 2).Sessions[0]
		if _, e := v.Do(create(0, 1)); e != api.OK {
			t.Fatal(e)
		}
		snaps, full := 0, false
		for i := 0; i < 400 && !full; i++ {
			in := junk(t, k, &sender, v, i)
			if i >= 100 {
				in = say(strings.Repeat("x", 64))
			}
			before, l := v.Member(), records(t, d)
			next, wantPosts, _ := member.Do(k, before, in)
			posts, e := v.Do(in)
			now := records(t, d)
			switch {
			case e == api.ErrFull:
				full = true
				if len(posts) > 0 || !member.Same(v.Member(), before) || !slices.Equal(now, l) {
					t.Fatal("a step on a full disk changes something")
				}
			case e != api.OK || !member.Same(v.Member(), next) || !samePosts(posts, wantPosts):
				t.Fatalf("%d", e)
			case len(now) == 1:
				snaps++
				if now[0] != "s"+bytesOf(t, next) {
					t.Fatal("it is not the member that is written")
				}
			}
			if again, e := vault.Open(k, d); e != api.OK || !member.Same(again.Member(), v.Member()) {
				t.Fatalf("Open: %d", e)
			}
		}
		if !full || snaps < 3 {
			t.Errorf("%d blocks: %d snaps, full: %v", blocks, snaps, full)
		}
	}
}

func TestP22_3SnapOnADyingDisk(t *testing.T) {
	k := suite.NewFree()
	d := disk.New(40)
	v := newVault(t, k, d, 0, 2)
	sender := newMember(t, k, 1, 2).Sessions[0]
	v.Do(create(0, 1))
	for i := range 200 {
		in := junk(t, k, &sender, v, i)
		b, _ := save.WriteInput(in)
		if v.Room() >= len(b)+3 {
			v.Do(in)
			continue
		}
		before := v.Member()
		d.Fuse(2)
		if posts, e := v.Do(in); e != api.ErrDead || len(posts) > 0 || !member.Same(v.Member(), before) {
			t.Fatalf("a disk that dies while the member is written: %d", e)
		}
		d.Crash(4, 4)
		if again, e := vault.Open(k, d); e != api.OK || !member.Same(again.Member(), before) {
			t.Fatalf("Open: %d", e)
		}
		return
	}
	t.Error("the journal never was full")
}

func TestP22_4MemberAndNil(t *testing.T) {
	v := newVault(t, suite.NewFree(), disk.New(100), 0, 2)
	v.Do(create(0, 1))
	s := v.Member()
	s.Nodes[0].Op.Who[0] = 77
	if v.Member().Nodes[0].Op.Who[0] != 0 {
		t.Error("Member gives away the vault's memory")
	}
	var none *vault.Vault
	posts, e := none.Do(create(0))
	if !member.Same(none.Member(), api.Member{}) || none.Room() != 0 || e != api.ErrDead || len(posts) > 0 {
		t.Errorf("a nil vault: %d", e)
	}
	arg := newMember(t, suite.NewFree(), 0, 2)
	arg.Inbox = []api.Letter{{Text: "a"}}
	kept, _ := vault.New(suite.NewFree(), disk.New(100), arg)
	arg.Inbox[0].Text = "changed"
	if kept.Member().Inbox[0].Text != "a" {
		t.Error("New keeps an argument's memory")
	}
}

// life lets a vault and its partner exchange frames while the vault's disk fails now and then.
func life(t *testing.T, r *rand.Rand, k suite.Kit) {
	t.Helper()
	d := disk.New(60 + r.Intn(100))
	v := newVault(t, k, d, 0, 2)
	partner := newMember(t, k, 1, 2)
	sure := []api.Member{v.Member()} // the last state, and behind it the one that a failed step leads to
	var mail []api.Frame
	step := func(in api.Input) {
		t.Helper()
		next, wantPosts, wantErr := member.Do(k, sure[0], in)
		posts, e := v.Do(in)
		switch {
		case e == api.OK:
			sure = []api.Member{next}
			if !samePosts(posts, wantPosts) {
				t.Fatal("other posts")
			}
			for _, p := range posts {
				var answers []api.Post
				partner, answers, _ = member.Do(k, partner, api.Input{Kind: api.InTake, Frame: p.Frame})
				for _, a := range answers {
					mail = append(mail, a.Frame)
				}
			}
		case e == api.ErrDead:
			sure = append(sure[:1], next)
		case e != wantErr && e != api.ErrFull && e != api.ErrArg:
			t.Fatalf("%d, not %d", e, wantErr)
		}
		if !member.Same(v.Member(), sure[0]) {
			t.Fatal("the member is another one")
		}
	}
	step(create(0, 1))
	for range 40 {
		if r.Intn(6) == 0 {
			d.Fuse(r.Intn(12))
		}
		if len(mail) > 0 && r.Intn(2) == 0 {
			step(api.Input{Kind: api.InTake, Frame: mail[0]})
			mail = mail[1:]
		} else {
			step([]api.Input{say("text"), {Kind: api.InUpdate}, {Kind: api.InTick}, create(0, 1)}[r.Intn(4)])
		}
		if !d.Dead() && r.Intn(8) > 0 {
			continue
		}
		keep := make([]uint8, r.Intn(8))
		for i := range keep {
			keep[i] = uint8(r.Intn(6))
		}
		d.Crash(keep...)
		again, e := vault.Open(k, d)
		if e != api.OK {
			t.Fatalf("Open: %d", e)
		}
		if !slices.ContainsFunc(sure, func(s api.Member) bool { return member.Same(s, again.Member()) }) {
			t.Fatal("the member that is found is neither the last one nor the next one")
		}
		v, sure = again, []api.Member{again.Member()}
	}
}

func TestP22_5Durability(t *testing.T) {
	r := rand.New(rand.NewSource(1))
	for range 60 {
		life(t, r, suite.NewFree())
	}
	life(t, r, suite.Real{})
}
