package journal_test

import (
	"math/rand"
	"slices"
	"strings"
	"testing"

	"cabal/api"
	"cabal/digest"
	"cabal/disk"
	"cabal/journal"
	"cabal/wire"
)

func zeros(n int) string { return strings.Repeat("\x00", n) }

// mark is the sector that lets so many bytes of an area count.
func mark(area, n int) string {
	head := "mark" + string([]byte{byte(area), byte(n >> 24), byte(n >> 16), byte(n >> 8), byte(n)})
	sum := digest.Sum(head)
	return head + string(sum[:8]) + zeros(47)
}

func encoded(l ...string) string {
	var w wire.Writer
	w.Texts(l...)
	return w.String()
}

func mustOpen(t *testing.T, d *disk.Disk) *journal.Journal {
	t.Helper()
	j, e := journal.Open(d)
	if e != api.OK || j == nil {
		t.Fatalf("Open: %d", e)
	}
	return j
}

// put writes bytes to a disk from a block on.
func put(t *testing.T, d *disk.Disk, at int, s string) {
	t.Helper()
	for ; s != ""; at++ {
		n := min(len(s), 256)
		if e := d.Write(at, s[:n]+zeros(256-n)); e != api.OK {
			t.Fatalf("block %d: %d", at, e)
		}
		s = s[n:]
	}
}

// image is all that a disk has.
func image(d *disk.Disk) string {
	var b strings.Builder
	for at := range d.Blocks() {
		s, _ := d.Read(at)
		b.WriteString(s)
	}
	return b.String()
}

func TestP13_1OpenNew(t *testing.T) {
	for n := range 12 {
		d := disk.New(n)
		j, e := journal.Open(d)
		if n < 3 {
			if j != nil || e != api.ErrArg {
				t.Errorf("%d blocks: %d", n, e)
			}
			continue
		}
		if e != api.OK || len(j.Records()) != 0 || j.Room() != (n-1)/2*256 {
			t.Errorf("%d blocks: %d, room %d", n, e, j.Room())
		}
	}
	if j, e := journal.Open(nil); j != nil || e != api.ErrArg {
		t.Errorf("a nil disk: %d", e)
	}
	d := disk.New(9)
	put(t, d, 0, zeros(64)+strings.Repeat("x", 192)) // the first sector alone counts
	put(t, d, 1, "\x02ab")
	if j := mustOpen(t, d); len(j.Records()) != 0 || j.Room() != 4*256 {
		t.Error("a first sector of zeros")
	}
}

func TestP13_1OpenWritten(t *testing.T) {
	for area := range 2 {
		d := disk.New(8) // areas of three blocks
		l := []string{"a", "", strings.Repeat("b", 300), "c"}
		bytes := encoded(l...)
		put(t, d, 0, mark(area, len(bytes))+strings.Repeat("x", 192))
		put(t, d, 1+3*area, bytes+"\x80\x80 what is behind does not count")
		j := mustOpen(t, d)
		if !slices.Equal(j.Records(), l) || j.Room() != 768-len(bytes) {
			t.Errorf("area %d: %q, room %d", area, j.Records(), j.Room())
		}
		put(t, d, 0, mark(area, 0))
		if j := mustOpen(t, d); len(j.Records()) != 0 || j.Room() != 768 {
			t.Errorf("area %d, no bytes: %q", area, j.Records())
		}
	}
}

func TestP13_1OpenSpoilt(t *testing.T) {
	spoilt := func(name, sector, bytes string) {
		t.Helper()
		d := disk.New(7)
		put(t, d, 1, bytes)
		put(t, d, 0, sector)
		before := image(d)
		if j, e := journal.Open(d); j != nil || e != api.ErrSpoilt {
			t.Errorf("%s: %d", name, e)
		}
		if image(d) != before {
			t.Errorf("%s: Open writes", name)
		}
	}
	good := mark(0, 5)
	for i := range 64 {
		b := []byte(good)
		b[i]++
		spoilt("a mark whose byte "+string(rune('0'+i))+" is another one", string(b), "\x01a\x02bc")
	}
	spoilt("area 2", mark(2, 5), "\x01a\x02bc")
	spoilt("area 255", mark(255, 5), "\x01a\x02bc")
	spoilt("more than the area", mark(0, 3*256+1), strings.Repeat("\x00", 769))
	spoilt("very much more", mark(1, 1<<31), "")
	spoilt("a record that is cut", mark(0, 4), "\x01a\x02bc")
	spoilt("a number that is cut", mark(0, 1), "\x81\x00")
	spoilt("a number with leading zeros", mark(0, 3), "\x80\x01a")
	spoilt("one byte more", mark(0, 6), "\x01a\x02bc\x05")
	spoilt("only the second sector", zeros(63)+"x", "")
}

func TestP13_1LongRecords(t *testing.T) {
	d := disk.New(600)
	for _, x := range []struct {
		n int
		e api.Errno
	}{{60000, api.OK}, {60001, api.ErrSpoilt}} {
		bytes := encoded(strings.Repeat("r", x.n))
		put(t, d, 1, bytes)
		put(t, d, 0, mark(0, len(bytes)))
		if j, e := journal.Open(d); e != x.e || e == api.OK && len(j.Records()[0]) != x.n {
			t.Errorf("a record of %d bytes: %d", x.n, e)
		}
	}
}

func TestP13_2RecordsAndRoom(t *testing.T) {
	j := mustOpen(t, disk.New(5))
	j.Append("a", "b")
	j.Records()[0] = "changed"
	if !slices.Equal(j.Records(), []string{"a", "b"}) || j.Room() != 512-4 {
		t.Errorf("%q, room %d", j.Records(), j.Room())
	}
	var none *journal.Journal
	if len(none.Records()) != 0 || none.Room() != 0 || none.Append() != api.ErrDead || none.Append("a") != api.ErrDead || none.Snap("a") != api.ErrDead {
		t.Error("a nil journal")
	}
}

func TestP13_3Append(t *testing.T) {
	d := disk.New(9)
	j := mustOpen(t, d)
	if e := j.Append("a", "bc"); e != api.OK {
		t.Fatal(e)
	}
	want := mark(0, 5) + zeros(192) + "\x01a\x02bc"
	if image(d) != want+zeros(9*256-len(want)) || d.Settled(1)[:5] != "\x01a\x02bc" || d.Settled(0)[:64] != mark(0, 5) {
		t.Errorf("the document's example: %x", image(d)[:300])
	}
	all := []string{"a", "bc"}
	for _, n := range []int{0, 100, 148, 0, 253, 3, 1} {
		s := strings.Repeat("r", n)
		if e := j.Append(s); e != api.OK {
			t.Fatalf("%d bytes: %d", n, e)
		}
		all = append(all, s)
		bytes := encoded(all...)
		want := mark(0, len(bytes)) + zeros(192) + bytes
		if image(d) != want+zeros(9*256-len(want)) {
			t.Fatalf("%d bytes: the disk is off", n)
		}
		if !slices.Equal(j.Records(), all) || j.Room() != 1024-len(bytes) || !slices.Equal(mustOpen(t, d).Records(), all) {
			t.Fatalf("%d bytes: the journal is off", n)
		}
	}
	if e := j.Append("a", strings.Repeat("x", 60001)); e != api.ErrArg {
		t.Errorf("a long record: %d", e)
	}
	if e := j.Append(strings.Repeat("x", j.Room())); e != api.ErrFull {
		t.Errorf("more than there is room for: %d", e)
	}
	if e := j.Append("x", strings.Repeat("x", j.Room()-3)); e != api.ErrFull {
		t.Errorf("two records, more than there is room for: %d", e)
	}
	if !slices.Equal(j.Records(), all) {
		t.Error("an error changes the journal")
	}
	before := image(d)
	d.Fuse(0)
	if e := j.Append(); e != api.OK || d.Dead() {
		t.Errorf("no records: %d", e)
	}
	if e := j.Append(strings.Repeat("x", 60001)); e != api.ErrArg || d.Dead() || image(d) != before {
		t.Errorf("a long record is written: %d", e)
	}
	d.Fuse(-1)
	if e := j.Append(strings.Repeat("x", j.Room()-2)); e != api.OK || j.Room() != 0 {
		t.Errorf("as much as there is room for: %d, room %d", e, j.Room())
	}
	if e := j.Append(""); e != api.ErrFull {
		t.Errorf("an empty record in a full area: %d", e)
	}
	if full := mustOpen(t, d); full.Room() != 0 || !slices.Equal(full.Records(), j.Records()) {
		t.Error("a full area is not opened")
	}
}

func TestP13_3And4LongRecords(t *testing.T) {
	d := disk.New(1024)
	j := mustOpen(t, d)
	long := strings.Repeat("r", 60000)
	for n := range 2 {
		if e := j.Append(long); e != api.OK {
			t.Fatalf("record %d: %d", n, e)
		}
		size := (n + 1) * 60003
		if l := mustOpen(t, d).Records(); len(l) != n+1 || l[n] != long || d.Settled(0)[:64] != mark(0, size) || j.Room() != 511*256-size {
			t.Errorf("%d long records: %d", n+1, len(l))
		}
	}
	if e := j.Snap(long); e != api.OK || !slices.Equal(mustOpen(t, d).Records(), []string{long}) {
		t.Errorf("a long snap: %d", e)
	}
}

func TestP13_3Writes(t *testing.T) {
	for n, want := range map[int]int{0: 4, 254: 4, 255: 5, 256: 5, 600: 6} { // writes and syncs
		d := disk.New(20)
		j := mustOpen(t, d)
		d.Fuse(want)
		if e := j.Append(strings.Repeat("r", n)); e != api.OK || d.Dead() {
			t.Errorf("%d bytes need more than %d writes and syncs", n, want)
		}
		d.Fuse(want - 1)
		if e := j.Snap(strings.Repeat("r", n)); e != api.ErrDead {
			t.Errorf("%d bytes need less than %d writes and syncs", n, want)
		}
	}
	d := disk.New(20)
	j := mustOpen(t, d)
	j.Append(strings.Repeat("r", 253)) // 255 bytes
	d.Fuse(5)
	if e := j.Append("ab"); e != api.OK {
		t.Errorf("two blocks have a new byte: %d", e)
	}
	d.Fuse(0)
	if e := j.Append("c"); e != api.ErrDead || j.Room() != 9*256-258 || len(j.Records()) != 2 {
		t.Errorf("a disk that dies: %d", e)
	}
	if e := j.Append("c"); e != api.ErrDead {
		t.Errorf("a dead disk: %d", e)
	}
}

func TestP13_4Snap(t *testing.T) {
	d := disk.New(8)
	j := mustOpen(t, d)
	j.Append("old", "records")
	for i := range 4 {
		s := strings.Repeat(string(rune('a'+i)), 100*i+1)
		if e := j.Snap(s); e != api.OK {
			t.Fatal(e)
		}
		area, bytes := (i+1)%2, encoded(s)
		if d.Settled(0) != mark(area, len(bytes))+zeros(192) || !strings.HasPrefix(image(d)[256+area*768:], bytes+zeros(-len(bytes)&255)) {
			t.Errorf("snap %d: the disk is off", i)
		}
		if !slices.Equal(j.Records(), []string{s}) || j.Room() != 768-len(bytes) || !slices.Equal(mustOpen(t, d).Records(), []string{s}) {
			t.Errorf("snap %d: the journal is off", i)
		}
	}
	j.Append("more")
	if got := mustOpen(t, d).Records(); len(got) != 2 || got[1] != "more" {
		t.Errorf("%d records behind a snap", len(got))
	}
	before := j.Records()
	if e := j.Snap(strings.Repeat("x", 60001)); e != api.ErrArg {
		t.Errorf("a long record: %d", e)
	}
	if e := j.Snap(strings.Repeat("x", 767)); e != api.ErrFull {
		t.Errorf("more than an area: %d", e)
	}
	d.Fuse(1)
	if e := j.Snap("x"); e != api.ErrDead || !slices.Equal(j.Records(), before) {
		t.Errorf("a disk that dies: %d", e)
	}
	d.Crash()
	if e := j.Snap(strings.Repeat("x", 766)); e != api.OK || j.Room() != 0 {
		t.Errorf("as much as an area has: %d", e)
	}
	if e := j.Snap(strings.Repeat("y", 766)); e != api.OK || j.Room() != 0 {
		t.Errorf("as much as an area has, once more: %d", e)
	}
}

func TestP13_5And6Crashes(t *testing.T) {
	r := rand.New(rand.NewSource(1))
	for range 3000 {
		d := disk.New(7 + r.Intn(6))
		j := mustOpen(t, d)
		var sure []string
		for {
			var l []string
			for range 1 + r.Intn(3) {
				l = append(l, strings.Repeat(string(rune('a'+r.Intn(26))), r.Intn(1+r.Intn(250))))
			}
			snap := r.Intn(3) == 0
			next := append(slices.Clone(sure), l...)
			d.Fuse(r.Intn(14) - 1)
			var e api.Errno
			if snap {
				next = l[:1]
				e = j.Snap(l[0])
			} else {
				e = j.Append(l...)
			}
			if e == api.OK {
				sure = next
			} else if e != api.ErrFull && e != api.ErrDead {
				t.Fatal(e)
			}
			if !slices.Equal(j.Records(), sure) {
				t.Fatal("the journal is off")
			}
			if !d.Dead() && r.Intn(10) > 0 {
				continue
			}
			keep := make([]uint8, r.Intn(9))
			for i := range keep {
				keep[i] = uint8(r.Intn(5))
			}
			d.Crash(keep...)
			got := mustOpen(t, d).Records()
			if !slices.Equal(got, sure) && (e != api.ErrDead || !slices.Equal(got, next)) {
				t.Fatalf("behind a crash: %q, neither %q nor %q", got, sure, next)
			}
			break
		}
	}
}
