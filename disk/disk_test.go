package disk_test

import (
	"math"
	"math/rand"
	"strings"
	"testing"

	"cabal/api"
	"cabal/disk"
)

var zeros = full(0)

func full(b byte) string { return strings.Repeat(string([]byte{b}), api.BlockSize) }

// check says what each block must have: as it was written last, and as it is settled.
func check(t *testing.T, d *disk.Disk, at int, latest, settled string) {
	t.Helper()
	if got, e := d.Read(at); e != api.OK || got != latest {
		t.Errorf("block %d: %d, %.8x.., not %.8x..", at, e, got, latest)
	}
	if got := d.Settled(at); got != settled {
		t.Errorf("block %d: settled is %.8x.., not %.8x..", at, got, settled)
	}
}

func TestP12_1New(t *testing.T) {
	for _, x := range [][2]int{{1, 1}, {2, 2}, {200, 200}, {1024, 1024}, {1025, 1024}, {math.MaxInt, 1024}, {0, 1}, {-1, 1}, {math.MinInt, 1}} {
		d := disk.New(x[0])
		if d.Blocks() != x[1] || d.Dead() {
			t.Errorf("New(%d): %d blocks", x[0], d.Blocks())
		}
		check(t, d, 0, zeros, zeros)
		check(t, d, x[1]-1, zeros, zeros)
	}
	d := disk.New(3)
	for i := range 2000 { // there is no fuse
		if e := d.Write(i%3, full(byte(i))); e != api.OK {
			t.Fatalf("write %d: %d", i, e)
		}
		if e := d.Sync(); e != api.OK {
			t.Fatalf("sync %d: %d", i, e)
		}
	}
}

func TestP12_1NilDisk(t *testing.T) {
	var d *disk.Disk
	d.Fuse(3)
	d.Crash(1, 2)
	if d.Blocks() != 0 || !d.Dead() || d.Settled(0) != "" {
		t.Error("a nil disk has something")
	}
	if s, e := d.Read(0); s != "" || e == api.OK {
		t.Errorf("Read: %d", e)
	}
	if d.Write(0, zeros) == api.OK || d.Sync() == api.OK {
		t.Error("a nil disk can be written")
	}
}

func TestP12_2Read(t *testing.T) {
	d := disk.New(4)
	d.Write(2, full('a'))
	check(t, d, 2, full('a'), zeros)
	check(t, d, 1, zeros, zeros)
	d.Write(2, full('b'))
	check(t, d, 2, full('b'), zeros)
	d.Sync()
	check(t, d, 2, full('b'), full('b'))
	d.Write(2, full('c'))
	check(t, d, 2, full('c'), full('b'))
	for _, at := range []int{-1, 4, 5, math.MaxInt, math.MinInt} {
		if s, e := d.Read(at); s != "" || e != api.ErrArg {
			t.Errorf("Read(%d): %d", at, e)
		}
		if d.Settled(at) != "" {
			t.Errorf("Settled(%d)", at)
		}
	}
}

func TestP12_3Write(t *testing.T) {
	d := disk.New(2)
	for _, at := range []int{-1, 2, math.MaxInt} {
		if e := d.Write(at, full('a')); e != api.ErrArg {
			t.Errorf("Write(%d): %d", at, e)
		}
	}
	for _, n := range []int{0, 1, 64, 255, 257, 512} {
		if e := d.Write(0, strings.Repeat("a", n)); e != api.ErrArg {
			t.Errorf("%d bytes: %d", n, e)
		}
	}
	check(t, d, 0, zeros, zeros)
	d.Fuse(0)
	if e := d.Write(0, "short"); e != api.ErrArg || d.Dead() {
		t.Errorf("a short write at the fuse's end: %d", e)
	}
	if e := d.Write(0, full('a')); e != api.ErrDead || !d.Dead() {
		t.Errorf("a write at the fuse's end: %d", e)
	}
	check(t, d, 0, full('a'), zeros) // unsynced nevertheless
	if e := d.Write(0, full('b')); e != api.ErrDead {
		t.Errorf("a write to a dead disk: %d", e)
	}
	if e := d.Write(0, "short"); e != api.ErrArg {
		t.Errorf("a short write to a dead disk: %d", e)
	}
	if e := d.Write(2, full('b')); e != api.ErrArg {
		t.Errorf("a write beyond a dead disk: %d", e)
	}
	check(t, d, 0, full('a'), zeros)
	if e := d.Sync(); e != api.ErrDead {
		t.Errorf("a sync of a dead disk: %d", e)
	}
	check(t, d, 0, full('a'), zeros)
	d.Crash(4)
	check(t, d, 0, full('a'), full('a'))
}

func TestP12_3Sync(t *testing.T) {
	d := disk.New(3)
	if e := d.Sync(); e != api.OK {
		t.Errorf("nothing to sync: %d", e)
	}
	d.Write(1, full('a'))
	d.Write(2, full('b'))
	d.Write(1, full('c'))
	if e := d.Sync(); e != api.OK {
		t.Errorf("Sync: %d", e)
	}
	check(t, d, 1, full('c'), full('c'))
	check(t, d, 2, full('b'), full('b'))
	d.Write(1, full('d'))
	d.Fuse(0)
	if e := d.Sync(); e != api.ErrDead || !d.Dead() {
		t.Errorf("a sync at the fuse's end: %d", e)
	}
	check(t, d, 1, full('d'), full('c'))
	d.Crash()
	check(t, d, 1, full('c'), full('c'))
}

func TestP12_3And4Fuse(t *testing.T) {
	for n := range 6 {
		d := disk.New(2)
		d.Fuse(n)
		for i := range 8 {
			var e api.Errno
			if i%2 == 0 {
				e = d.Write(0, full(byte(i+1)))
			} else {
				e = d.Sync()
			}
			if want := i >= n; (e == api.ErrDead) != want || d.Dead() != want {
				t.Fatalf("fuse %d, step %d: %d", n, i, e)
			}
		}
	}
	d := disk.New(1)
	d.Fuse(0)
	d.Fuse(-7)
	if e := d.Write(0, full('a')); e != api.OK {
		t.Errorf("a fuse that was removed: %d", e)
	}
	d.Fuse(1)
	d.Fuse(2)
	if d.Write(0, zeros) != api.OK || d.Sync() != api.OK || d.Sync() != api.ErrDead {
		t.Error("a fuse that was set anew")
	}
	d.Fuse(-1)
	if !d.Dead() || d.Write(0, zeros) != api.ErrDead {
		t.Error("a dead disk lives, as its fuse was removed")
	}
}

func TestP12_4Crash(t *testing.T) {
	d := disk.New(2)
	d.Write(0, full('x'))
	d.Crash(2)
	want := full('x')[:128] + zeros[:128]
	check(t, d, 0, want, want)
	for keep := range 256 {
		d := disk.New(2)
		d.Write(0, full('o'))
		d.Sync()
		d.Write(0, full('n'))
		d.Write(1, full('m'))
		d.Fuse(0)
		d.Sync()
		d.Crash(uint8(keep))
		n := keep % 5 * 64
		want := full('n')[:n] + full('o')[n:]
		check(t, d, 0, want, want)
		check(t, d, 1, zeros, zeros)
		if d.Dead() || d.Sync() != api.OK || d.Write(1, full('z')) != api.OK {
			t.Error("the disk is dead, or has a fuse")
		}
		d.Crash()
		check(t, d, 0, want, want)
		check(t, d, 1, zeros, zeros)
	}
}

func TestP12_4CrashInOrder(t *testing.T) {
	d := disk.New(1)
	d.Write(0, full('a'))
	d.Write(0, full('b'))
	d.Write(0, full('c'))
	d.Crash(4, 3, 1, 4, 4)
	want := full('c')[:64] + full('b')[:128] + full('a')[:64]
	check(t, d, 0, want, want)
	d.Crash(4, 4, 4)
	check(t, d, 0, want, want)
}

func TestP12_5OldOrNewSectors(t *testing.T) {
	r := rand.New(rand.NewSource(1))
	for range 300 {
		d := disk.New(3)
		synced := [3]string{zeros, zeros, zeros}
		latest := synced
		written := map[string]bool{}
		for range r.Intn(20) {
			if at := r.Intn(3); r.Intn(4) > 0 {
				latest[at] = full(byte(1 + r.Intn(200)))
				written[string([]byte{byte(at)})+latest[at][:1]] = true
				d.Write(at, latest[at])
			} else if d.Sync() == api.OK {
				synced, written = latest, map[string]bool{}
			}
		}
		keep := make([]uint8, r.Intn(20))
		for i := range keep {
			keep[i] = uint8(r.Intn(256))
		}
		d.Crash(keep...)
		for at := range 3 {
			got := d.Settled(at)
			for s := 0; s < 256; s += 64 {
				sector := got[s : s+64]
				if sector != strings.Repeat(sector[:1], 64) || sector[:1] != synced[at][:1] && !written[string([]byte{byte(at)})+sector[:1]] {
					t.Fatalf("a sector is neither old nor new: %x", sector)
				}
			}
		}
	}
}

func TestP12_6CrashThatKeepsAll(t *testing.T) {
	r := rand.New(rand.NewSource(2))
	for range 100 {
		a, b := disk.New(4), disk.New(4)
		n := r.Intn(12)
		for range n {
			at, data := r.Intn(4), full(byte(r.Intn(256)))
			a.Write(at, data)
			b.Write(at, data)
		}
		a.Sync()
		b.Crash([]uint8{4, 9, 14, 254, 4, 4, 4, 4, 4, 4, 4, 4}[:n]...)
		for at := range 4 {
			latest, _ := a.Read(at)
			check(t, b, at, latest, a.Settled(at))
		}
	}
}
