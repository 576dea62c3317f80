package dev

import (
	"math"
	"slices"
	"strings"
	"testing"

	"polder/api"
)

// full answers a sector's bytes, all of them c.
func full(c byte) string { return strings.Repeat(string([]byte{c}), api.Sector) }

// mixed answers a sector's bytes, others for each seed, all values among them.
func mixed(seed int) string {
	b := make([]byte, api.Sector)
	for i := range b {
		b[i] = byte(seed*131 + i*7 + i*i*seed)
	}
	return string(b)
}

// made answers a new device.
func made(t *testing.T, secs int) *Dev {
	t.Helper()
	d, e := New(secs)
	if e != api.OK || d == nil {
		t.Fatalf("New(%d) = %v, %d", secs, d, e)
	}
	return d
}

// laid answers a device of as many sectors as there are bytes, each flushed full of its byte.
func laid(t *testing.T, bytes string) *Dev {
	t.Helper()
	d := made(t, len(bytes))
	for at := range len(bytes) {
		write(t, d, at, full(bytes[at]))
	}
	flush(t, d)
	return d
}

func write(t *testing.T, d *Dev, at int, s string) {
	t.Helper()
	if e := d.Write(at, s); e != api.OK {
		t.Fatalf("Write(%d) = %d", at, e)
	}
}

func flush(t *testing.T, d *Dev) {
	t.Helper()
	if e := d.Flush(); e != api.OK {
		t.Fatalf("Flush = %d", e)
	}
}

// reads holds what a sector reads as against what it is to be.
func reads(t *testing.T, d *Dev, at int, want string) {
	t.Helper()
	if s, e := d.Read(at); s != want || e != api.OK {
		t.Errorf("Read(%d) = %q, %d, want %q", at, s, e, want)
	}
}

// holds tells that each sector reads as full of its byte.
func holds(t *testing.T, d *Dev, bytes string) {
	t.Helper()
	if d.Secs() != len(bytes) {
		t.Errorf("Secs = %d, want %d", d.Secs(), len(bytes))
	}
	for at := range len(bytes) {
		reads(t, d, at, full(bytes[at]))
	}
}

func cached(t *testing.T, d *Dev, want ...int) {
	t.Helper()
	if got := d.Cached(); !slices.Equal(got, want) {
		t.Errorf("Cached = %v, want %v", got, want)
	}
}

// Promise 4.1: New, of the fewest and the most sectors; all of them zero.
func TestNew(t *testing.T) {
	for _, secs := range []int{1, 2, 100, api.MaxSecs - 1, api.MaxSecs} {
		d := made(t, secs)
		holds(t, d, strings.Repeat("\x00", secs))
		if d.Secs() != secs || d.Lost() {
			t.Errorf("of %d: Secs = %d, Lost = %t", secs, d.Secs(), d.Lost())
		}
		cached(t, d)
	}
}

// Promise 4.1: New refuses a number of sectors that may not be.
func TestNewRefuses(t *testing.T) {
	for _, secs := range []int{0, -1, math.MinInt, api.MaxSecs + 1, math.MaxInt} {
		if d, e := New(secs); d != nil || e != api.ErrArg {
			t.Errorf("New(%d) = %v, %d, want nil and ErrArg", secs, d, e)
		}
	}
}

// Promise 4.1: two devices are apart.
func TestDevicesApart(t *testing.T) {
	a, b := made(t, 2), made(t, 2)
	write(t, a, 0, full('a'))
	a.Fuse(0)
	a.Lose()
	holds(t, b, "\x00\x00")
	cached(t, b)
	if b.Lost() || b.Write(1, full('b')) != api.OK || b.Flush() != api.OK {
		t.Error("what befell one device befell the other")
	}
}

// Promise 4.1: what is written reads so, in its sector alone, at both ends of a device.
func TestWrite(t *testing.T) {
	for _, secs := range []int{1, 2, 5, api.MaxSecs} {
		for _, at := range []int{0, secs / 2, secs - 1} {
			d := made(t, secs)
			write(t, d, at, mixed(9))
			for i := range secs {
				if i == at {
					reads(t, d, i, mixed(9))
				} else {
					reads(t, d, i, full(0))
				}
			}
			cached(t, d, at)
		}
	}
}

// Promise 4.1: all bytes are taken as they are.
func TestWriteAllBytes(t *testing.T) {
	d := made(t, 1)
	for c := range 256 {
		write(t, d, 0, full(byte(c)))
		reads(t, d, 0, full(byte(c)))
	}
}

// Promise 4.1: of a sector that was written several times the last is read, and flushed.
func TestFlushLast(t *testing.T) {
	d := made(t, 3)
	for _, c := range "abc" {
		write(t, d, 1, full(byte(c)))
	}
	write(t, d, 2, full('x'))
	holds(t, d, "\x00cx")
	flush(t, d)
	holds(t, d, "\x00cx")
	cached(t, d)
	d.Crash(nil)
	holds(t, d, "\x00cx")
}

// Promise 4.1: a flush of nothing is done, and a second one changes nothing.
func TestFlushNothing(t *testing.T) {
	d := made(t, 2)
	flush(t, d)
	holds(t, d, "\x00\x00")
	write(t, d, 0, full('a'))
	flush(t, d)
	flush(t, d)
	holds(t, d, "a\x00")
}

// Promise 4.1: sectors that there aren't.
func TestBounds(t *testing.T) {
	for _, secs := range []int{1, 4, api.MaxSecs} {
		d := made(t, secs)
		for _, at := range []int{-1, secs, secs + 1, math.MinInt, math.MaxInt} {
			if s, e := d.Read(at); s != "" || e != api.ErrBounds {
				t.Errorf("of %d: Read(%d) = %q, %d", secs, at, s, e)
			}
			if e := d.Write(at, full('a')); e != api.ErrBounds {
				t.Errorf("of %d: Write(%d) = %d", secs, at, e)
			}
			if d.Spoil(at, 0, 1) {
				t.Errorf("of %d: Spoil(%d) = true", secs, at)
			}
		}
		cached(t, d)
		holds(t, d, strings.Repeat("\x00", secs))
	}
}

// Promise 4.1: a text that doesn't have 64 bytes is refused, and changes nothing.
func TestWriteRefuses(t *testing.T) {
	d := laid(t, "ab")
	write(t, d, 0, full('c'))
	for _, n := range []int{0, 1, api.Sector - 1, api.Sector + 1, 2 * api.Sector} {
		for at := range 2 {
			if e := d.Write(at, strings.Repeat("z", n)); e != api.ErrArg {
				t.Errorf("Write(%d) of %d bytes = %d", at, n, e)
			}
		}
	}
	// 64 runes are no 64 bytes.
	if e := d.Write(1, strings.Repeat("é", api.Sector)); e != api.ErrArg {
		t.Errorf("Write of 64 runes = %d", e)
	}
	if e := d.Write(1, strings.Repeat("é", api.Sector/2)); e != api.OK {
		t.Errorf("Write of 64 bytes = %d", e)
	}
	cached(t, d, 0, 1)
	d.Crash([]int{-1, -1})
	reads(t, d, 0, full('c'))
	reads(t, d, 1, strings.Repeat("é", api.Sector/2))
}

// Promises 4.1, 4.2: where several errors apply, the one that is named first.
func TestOrderOfErrors(t *testing.T) {
	d := made(t, 2)
	cases := []struct {
		at   int
		s    string
		want api.Errno
	}{
		{-1, full('a'), api.ErrBounds},
		{2, full('a'), api.ErrBounds},
		{-1, "short", api.ErrBounds},
		{2, "", api.ErrBounds},
		{0, "short", api.ErrArg},
		{1, "", api.ErrArg},
		{0, full('a'), api.ErrLost},
		{1, full('a'), api.ErrLost},
	}
	d.Fuse(0)
	for _, c := range cases {
		if e := d.Write(c.at, c.s); e != c.want {
			t.Errorf("no fuse left: Write(%d) of %d bytes = %d, want %d", c.at, len(c.s), e, c.want)
		}
	}
	d.Lose()
	for _, c := range cases {
		if e := d.Write(c.at, c.s); e != api.ErrLost {
			t.Errorf("lost: Write(%d) of %d bytes = %d", c.at, len(c.s), e)
		}
		if s, e := d.Read(c.at); s != "" || e != api.ErrLost {
			t.Errorf("lost: Read(%d) = %q, %d", c.at, s, e)
		}
	}
	if e := d.Flush(); e != api.ErrLost {
		t.Errorf("lost: Flush = %d", e)
	}
}

// The chapter's example.
func TestExample(t *testing.T) {
	d := made(t, 1)
	write(t, d, 0, full('a'))
	d.Crash(nil)
	holds(t, d, "\x00")
	write(t, d, 0, full('a'))
	flush(t, d)
	d.Crash(nil)
	holds(t, d, "a")
}

// Promise 4.2: what a crash keeps of one sector that was written three times, by its number.
func TestCrashNumbers(t *testing.T) {
	for _, c := range []struct {
		keep []int
		want string
	}{
		{nil, "m"},
		{[]int{}, "m"},
		{[]int{0}, "m"},
		{[]int{1}, "a"},
		{[]int{2}, "b"},
		{[]int{3}, "c"},
		{[]int{4}, "m"},
		{[]int{5}, "a"},
		{[]int{7}, "c"},
		{[]int{8}, "m"},
		{[]int{-1}, "c"},
		{[]int{-2}, "b"},
		{[]int{-3}, "a"},
		{[]int{-4}, "m"},
		{[]int{-5}, "c"},
		{[]int{math.MaxInt}, "c"},
		{[]int{math.MinInt}, "m"},
		{[]int{math.MinInt + 1}, "a"},
		// Longer than there are sectors in the cache: the others say nothing.
		{[]int{1, 2, 3}, "a"},
		{[]int{0, 3}, "m"},
	} {
		d := laid(t, "m")
		for _, v := range "abc" {
			write(t, d, 0, full(byte(v)))
		}
		d.Crash(c.keep)
		if s, e := d.Read(0); s != full(c.want[0]) || e != api.OK {
			t.Errorf("Crash(%v): Read = %q, %d, want %s", c.keep, s, e, c.want)
		}
		cached(t, d)
	}
}

// Promise 4.2: a crash goes through the sectors in the cache, rising, however they were written.
func TestCrashOrder(t *testing.T) {
	for _, c := range []struct {
		keep []int
		want string
	}{
		{nil, "mnopq"},
		{[]int{1}, "mnApq"},
		{[]int{1, 1}, "mnAaq"},
		{[]int{1, 1, 1}, "mnAaX"},
		{[]int{1, 1, 1, 1, 1}, "mnAaX"},
		{[]int{0, 0, 1}, "mnopX"},
		{[]int{0, 2, 0}, "mnobq"},
		{[]int{2, 3, 2}, "mnopq"},
		{[]int{-1, -1, -1}, "mnAbX"},
		{[]int{-2, -2}, "mnoaq"},
		{[]int{3, 4, 5}, "mnAaX"},
	} {
		d := laid(t, "mnopq")
		write(t, d, 4, full('X'))
		write(t, d, 3, full('a'))
		write(t, d, 2, full('A'))
		write(t, d, 3, full('b'))
		cached(t, d, 2, 3, 4)
		d.Crash(c.keep)
		for at := range len(c.want) {
			if s, e := d.Read(at); s != full(c.want[at]) || e != api.OK {
				t.Errorf("Crash(%v): Read(%d) = %q, %d, want %c", c.keep, at, s, e, c.want[at])
			}
		}
		cached(t, d)
	}
}

// Promise 4.2: a crash of many sectors, each by its own number.
func TestCrashMany(t *testing.T) {
	d := made(t, api.MaxSecs)
	var keep []int
	for at := api.MaxSecs - 1; at >= 0; at-- {
		for v := range 1 + at%3 {
			write(t, d, at, full(byte('a'+v)))
		}
	}
	for at := range api.MaxSecs {
		keep = append(keep, at*5-api.MaxSecs)
	}
	d.Crash(keep)
	for at := range api.MaxSecs {
		n := keep[at]
		for n < 0 {
			n += 2 + at%3
		}
		want := byte(0)
		if n %= 2 + at%3; n > 0 {
			want = byte('a' + n - 1)
		}
		reads(t, d, at, full(want))
	}
}

// Promise 4.2: what a crash kept stands on the medium; what it didn't is gone.
func TestCrashTwice(t *testing.T) {
	d := made(t, 2)
	write(t, d, 0, full('a'))
	write(t, d, 0, full('b'))
	write(t, d, 1, full('c'))
	d.Crash([]int{1})
	holds(t, d, "a\x00")
	d.Crash([]int{2, 1})
	holds(t, d, "a\x00")
	flush(t, d)
	holds(t, d, "a\x00")
	// Versions of before the crash aren't counted with those behind it.
	write(t, d, 0, full('z'))
	d.Crash([]int{2})
	holds(t, d, "a\x00")
}

// Promise 4.2: versions of before a flush aren't counted with those behind it.
func TestCrashBehindFlush(t *testing.T) {
	d := made(t, 1)
	write(t, d, 0, full('a'))
	write(t, d, 0, full('b'))
	flush(t, d)
	write(t, d, 0, full('c'))
	d.Crash([]int{2})
	holds(t, d, "b")
	write(t, d, 0, full('c'))
	d.Crash([]int{-1})
	holds(t, d, "c")
}

// Promise 4.2: the list of a crash stays as it was, spare room included.
func TestCrashLeavesList(t *testing.T) {
	d := made(t, 3)
	for at := range 3 {
		write(t, d, at, full('a'))
	}
	room := []int{-5, 9, 7, 7, 7}
	d.Crash(room[:2])
	if !slices.Equal(room, []int{-5, 9, 7, 7, 7}) {
		t.Errorf("the list has become %v", room)
	}
	holds(t, d, "aa\x00")
}

// Promise 4.2: Spoil on the medium, at each place.
func TestSpoilMedium(t *testing.T) {
	for place := range api.Sector {
		d := made(t, 2)
		write(t, d, 1, mixed(3))
		flush(t, d)
		if !d.Spoil(1, place, 0x81) {
			t.Errorf("Spoil at %d = false", place)
		}
		want := []byte(mixed(3))
		want[place] ^= 0x81
		reads(t, d, 0, full(0))
		reads(t, d, 1, string(want))
		// It stands on the medium, and isn't in the cache.
		cached(t, d)
		d.Crash([]int{0, 0})
		reads(t, d, 1, string(want))
	}
}

// Promise 4.2: places below 0, and beyond a sector.
func TestSpoilPlaces(t *testing.T) {
	for _, c := range []struct{ place, want int }{
		{-1, 63}, {-2, 62}, {-63, 1}, {-64, 0}, {-65, 63},
		{64, 0}, {65, 1}, {127, 63}, {128, 0},
		{math.MaxInt, 63}, {math.MinInt, 0}, {math.MinInt + 1, 1},
	} {
		d := laid(t, "a")
		if !d.Spoil(0, c.place, 3) {
			t.Errorf("Spoil at %d = false", c.place)
		}
		want := []byte(full('a'))
		want[c.want] ^= 3
		reads(t, d, 0, string(want))
	}
}

// Promise 4.2: Spoil of a cached sector changes the last version alone.
func TestSpoilCache(t *testing.T) {
	spoilt := []byte(full('b'))
	spoilt[5] ^= 0xff
	for n, want := range []string{full('m'), full('a'), string(spoilt)} {
		d := laid(t, "mm")
		write(t, d, 1, full('a'))
		write(t, d, 1, full('b'))
		if !d.Spoil(1, 5, 0xff) {
			t.Error("Spoil = false")
		}
		reads(t, d, 1, string(spoilt))
		cached(t, d, 1)
		d.Crash([]int{n})
		reads(t, d, 1, want)
		reads(t, d, 0, full('m'))
	}
	d := laid(t, "m")
	write(t, d, 0, full('b'))
	d.Spoil(0, 5, 0xff)
	flush(t, d)
	reads(t, d, 0, string(spoilt))
}

// Promise 4.2: what is written behind a spoiling is whole, and so is what stood ahead of it in the cache.
func TestWriteBehindSpoil(t *testing.T) {
	d := laid(t, "m")
	write(t, d, 0, full('a'))
	d.Spoil(0, 0, 1)
	write(t, d, 0, full('c'))
	reads(t, d, 0, full('c'))
	d.Crash([]int{1})
	want := []byte(full('a'))
	want[0] ^= 1
	reads(t, d, 0, string(want))
}

// Promise 4.2: Spoil twice by one byte leaves all as it was.
func TestSpoilTwice(t *testing.T) {
	d := laid(t, "a")
	for by := 1; by < 256; by++ {
		if !d.Spoil(0, by, byte(by)) || !d.Spoil(0, by, byte(by)) {
			t.Errorf("Spoil by %d = false", by)
		}
		reads(t, d, 0, full('a'))
	}
}

// Promise 4.2: Spoil by 0 does nothing, and says so.
func TestSpoilByNothing(t *testing.T) {
	d := laid(t, "ab")
	write(t, d, 0, full('c'))
	for at := range 2 {
		for _, place := range []int{-1, 0, 63, 64} {
			if d.Spoil(at, place, 0) {
				t.Errorf("Spoil(%d, %d, 0) = true", at, place)
			}
		}
	}
	holds(t, d, "cb")
	cached(t, d, 0)
}

// Promise 4.2: a text that was written is the caller's: no spoiling is seen in it, nor in what was read.
func TestSpoilLeavesTexts(t *testing.T) {
	d := made(t, 2)
	s := strings.Clone(full('a'))
	write(t, d, 0, s)
	write(t, d, 1, s)
	was, _ := d.Read(0)
	flush(t, d)
	d.Spoil(0, 0, 1)
	if s != full('a') || was != full('a') {
		t.Errorf("texts have become %q and %q", s, was)
	}
	reads(t, d, 1, full('a'))
}

// Promise 4.2: a lost device; what it had in its cache, or on the medium, doesn't come again.
func TestLose(t *testing.T) {
	d := laid(t, "abc")
	write(t, d, 1, full('x'))
	for range 2 {
		d.Lose()
		if !d.Lost() || d.Secs() != 3 {
			t.Errorf("Lost = %t, Secs = %d", d.Lost(), d.Secs())
		}
		cached(t, d)
		for at := range 3 {
			if s, e := d.Read(at); s != "" || e != api.ErrLost {
				t.Errorf("Read(%d) = %q, %d", at, s, e)
			}
			if e := d.Write(at, full('y')); e != api.ErrLost {
				t.Errorf("Write(%d) = %d", at, e)
			}
			if d.Spoil(at, 0, 1) {
				t.Errorf("Spoil(%d) = true", at)
			}
		}
		if e := d.Flush(); e != api.ErrLost {
			t.Errorf("Flush = %d", e)
		}
		cached(t, d)
	}
	d.Fresh('z')
	holds(t, d, "zzz")
	d.Crash([]int{1, 1, 1})
	holds(t, d, "zzz")
}

// Promise 4.2: a crash of a lost device does nothing: it stays lost.
func TestCrashLost(t *testing.T) {
	d := laid(t, "ab")
	write(t, d, 0, full('x'))
	d.Lose()
	d.Crash([]int{1})
	if s, e := d.Read(0); s != "" || e != api.ErrLost || !d.Lost() {
		t.Errorf("Read = %q, %d, Lost = %t", s, e, d.Lost())
	}
	if e := d.Write(0, full('y')); e != api.ErrLost {
		t.Errorf("Write = %d", e)
	}
	if e := d.Flush(); e != api.ErrLost {
		t.Errorf("Flush = %d", e)
	}
	cached(t, d)
}

// Promise 4.2: a fresh device, in the place of a lost one and of one that isn't, of all fills and of the most sectors.
func TestFresh(t *testing.T) {
	for fill := range 256 {
		d := laid(t, "abc")
		write(t, d, 1, full('x'))
		if fill%2 == 1 {
			d.Lose()
		}
		d.Fresh(byte(fill))
		if d.Lost() {
			t.Error("Lost = true")
		}
		cached(t, d)
		holds(t, d, strings.Repeat(string([]byte{byte(fill)}), 3))
		d.Crash([]int{1, 1, 1})
		holds(t, d, strings.Repeat(string([]byte{byte(fill)}), 3))
	}
	for _, secs := range []int{1, api.MaxSecs} {
		d := made(t, secs)
		d.Fresh('z')
		holds(t, d, strings.Repeat("z", secs))
	}
}

// Promise 4.2: a fresh device is written, flushed, spoilt and lost as any is, sector by sector.
func TestFreshIsUsed(t *testing.T) {
	d := laid(t, "ab")
	d.Lose()
	d.Fresh('z')
	write(t, d, 0, full('c'))
	holds(t, d, "cz")
	d.Crash(nil)
	holds(t, d, "zz")
	write(t, d, 0, full('c'))
	flush(t, d)
	d.Crash(nil)
	d.Spoil(1, 0, 'z'^'y')
	reads(t, d, 0, full('c'))
	reads(t, d, 1, "y"+full('z')[1:])
	d.Lose()
	if !d.Lost() {
		t.Error("Lost = false")
	}
}

// Promise 4.2: a fuse lets just so many writes and flushes through, of whatever kinds, in whatever order.
func TestFuse(t *testing.T) {
	for _, n := range []int{math.MinInt, -1, 0, 1, 2, 3, 6, 7} {
		for kinds := range 1 << 7 {
			d := made(t, 1)
			d.Fuse(n)
			was, stands := full(0), full(0)
			for i := range 7 {
				want := api.OK
				if i >= n {
					want = api.ErrLost
				}
				if kinds>>i&1 == 1 {
					if e := d.Flush(); e != want {
						t.Fatalf("Fuse(%d), kinds %b: Flush %d = %d, want %d", n, kinds, i, e, want)
					}
					if want == api.OK {
						stands = was
					}
				} else {
					s := full(byte('a' + i))
					if e := d.Write(0, s); e != want {
						t.Fatalf("Fuse(%d), kinds %b: Write %d = %d, want %d", n, kinds, i, e, want)
					}
					if want == api.OK {
						was = s
					}
				}
				// A fuse keeps nobody from reading.
				reads(t, d, 0, was)
			}
			d.Crash(nil)
			reads(t, d, 0, stands)
		}
	}
}

// Promise 4.2: a fuse that runs out between a write and a flush: the write stays in the cache, for a crash to tell.
func TestFuseBetween(t *testing.T) {
	for n, want := range []string{"mn", "mw"} {
		d := laid(t, "mn")
		d.Fuse(1)
		write(t, d, 1, full('w'))
		for range 3 {
			if e := d.Flush(); e != api.ErrLost {
				t.Errorf("Flush = %d", e)
			}
			if e := d.Write(0, full('x')); e != api.ErrLost {
				t.Errorf("Write = %d", e)
			}
		}
		if d.Lost() {
			t.Error("Lost = true of a device without a fuse left")
		}
		holds(t, d, "mw")
		cached(t, d, 1)
		d.Crash([]int{n})
		holds(t, d, want)
		cached(t, d)
	}
}

// Promise 4.2: a write that is refused otherwise isn't counted.
func TestFuseCounts(t *testing.T) {
	d := made(t, 2)
	d.Fuse(2)
	for range 3 {
		if e := d.Write(2, full('a')); e != api.ErrBounds {
			t.Errorf("Write beyond = %d", e)
		}
		if e := d.Write(-1, ""); e != api.ErrBounds {
			t.Errorf("Write ahead = %d", e)
		}
		if e := d.Write(0, "short"); e != api.ErrArg {
			t.Errorf("Write of few bytes = %d", e)
		}
		d.Read(0)
		d.Spoil(0, 0, 1)
		d.Cached()
	}
	write(t, d, 0, full('a'))
	if e := d.Write(0, ""); e != api.ErrArg {
		t.Errorf("Write of no bytes = %d", e)
	}
	flush(t, d)
	if e := d.Write(2, full('a')); e != api.ErrBounds {
		t.Errorf("no fuse left: Write beyond = %d", e)
	}
	if e := d.Write(0, "short"); e != api.ErrArg {
		t.Errorf("no fuse left: Write of few bytes = %d", e)
	}
	if e := d.Write(1, full('b')); e != api.ErrLost {
		t.Errorf("no fuse left: Write = %d", e)
	}
	holds(t, d, "a\x00")
}

// Promise 4.2: a fuse that has run out keeps nobody from spoiling.
func TestFuseAndSpoil(t *testing.T) {
	d := laid(t, "ab")
	d.Fuse(1)
	write(t, d, 0, full('c'))
	if !d.Spoil(0, 0, 'c'^'x') || !d.Spoil(1, 0, 'b'^'x') {
		t.Error("Spoil = false")
	}
	reads(t, d, 0, "x"+full('c')[1:])
	reads(t, d, 1, "x"+full('b')[1:])
}

// taken tells that a device has no fuse: more writes and flushes are taken than any that was set lets through.
func taken(t *testing.T, d *Dev) {
	t.Helper()
	for i := range 10 {
		write(t, d, 0, full(byte(i)))
		flush(t, d)
	}
	reads(t, d, 0, full(9))
}

// Promise 4.2: a crash, or a fresh device, ends a fuse, whether it has run out or not, and with a loss between them too.
func TestFuseEnds(t *testing.T) {
	ends := []struct {
		name string
		do   func(d *Dev)
	}{
		{"a crash", func(d *Dev) { d.Crash(nil) }},
		{"a fresh device", func(d *Dev) { d.Fresh('z') }},
		{"a loss, and a fresh device", func(d *Dev) { d.Lose(); d.Fresh('z') }},
		{"a loss, a crash, and a fresh device", func(d *Dev) { d.Lose(); d.Crash(nil); d.Fresh('z') }},
	}
	for _, end := range ends {
		for _, n := range []int{-1, 0, 1, 2, 5} {
			t.Run(end.name, func(t *testing.T) {
				d := made(t, 1)
				d.Fuse(n)
				d.Write(0, full('a'))
				d.Flush()
				end.do(d)
				taken(t, d)
			})
		}
	}
	// One set on a lost device doesn't outlive that either.
	d := made(t, 1)
	d.Lose()
	d.Fuse(0)
	d.Fresh(0)
	taken(t, d)
}

// Promise 4.2: a device without a fuse left that is lost stays lost through a crash.
func TestFuseAndLoss(t *testing.T) {
	d := laid(t, "a")
	d.Fuse(5)
	d.Lose()
	if d.Write(0, full('b')) != api.ErrLost || d.Flush() != api.ErrLost {
		t.Error("a lost device takes what a fuse would let through")
	}
	d.Crash(nil)
	if d.Write(0, full('b')) != api.ErrLost || d.Flush() != api.ErrLost || !d.Lost() {
		t.Error("a lost device is back behind a crash")
	}
}

// Promise 4.2: a fuse takes the place of the one before.
func TestFuseAgain(t *testing.T) {
	d := made(t, 1)
	d.Fuse(0)
	d.Fuse(2)
	write(t, d, 0, full('a'))
	d.Fuse(1)
	flush(t, d)
	if e := d.Write(0, full('b')); e != api.ErrLost {
		t.Errorf("Write = %d", e)
	}
	d.Fuse(math.MaxInt)
	taken(t, d)
	d.Fuse(-7)
	if e := d.Flush(); e != api.ErrLost {
		t.Errorf("Flush = %d", e)
	}
}

// Promise 4.2: Cached, rising, each sector once; new memory each time.
func TestCached(t *testing.T) {
	d := made(t, api.MaxSecs)
	var want []int
	for i := range 300 {
		at := i * 1231 % api.MaxSecs
		write(t, d, at, full('a'))
		write(t, d, at, full('b'))
		want = append(want, at)
	}
	slices.Sort(want)
	cached(t, d, want...)
	l := d.Cached()
	for i := range l[:cap(l)] {
		l[:cap(l)][i] = -1
	}
	cached(t, d, want...)
	flush(t, d)
	cached(t, d)
}

// Promises 4.1, 4.2: nil, at each call.
func TestNil(t *testing.T) {
	var d *Dev
	for range 2 {
		if n := d.Secs(); n != 0 {
			t.Errorf("Secs = %d", n)
		}
		for _, at := range []int{-1, 0, 1} {
			if s, e := d.Read(at); s != "" || e != api.ErrLost {
				t.Errorf("Read(%d) = %q, %d", at, s, e)
			}
			for _, s := range []string{"", full('a')} {
				if e := d.Write(at, s); e != api.ErrLost {
					t.Errorf("Write(%d) of %d bytes = %d", at, len(s), e)
				}
			}
			if d.Spoil(at, 0, 1) || d.Spoil(at, 0, 0) {
				t.Errorf("Spoil(%d) = true", at)
			}
		}
		if e := d.Flush(); e != api.ErrLost {
			t.Errorf("Flush = %d", e)
		}
		if !d.Lost() {
			t.Error("Lost = false")
		}
		cached(t, d)
		d.Crash([]int{1})
		d.Crash(nil)
		d.Lose()
		d.Fresh('a')
		d.Fuse(1)
	}
}

// plain is a device by the chapter's words alone: all that was written since the last flush, in one row.
type plain struct {
	stands []string
	row    []written
	lost   bool
	fuse   int // as many as may be taken; below 0: any
}

type written struct {
	at int
	s  string
}

func (p *plain) versions(at int) []string {
	var l []string
	for _, w := range p.row {
		if w.at == at {
			l = append(l, w.s)
		}
	}
	return l
}

func (p *plain) read(at int) string {
	if l := p.versions(at); len(l) > 0 {
		return l[len(l)-1]
	}
	return p.stands[at]
}

func (p *plain) taken() bool {
	if p.lost || p.fuse == 0 {
		return false
	}
	p.fuse--
	return true
}

func (p *plain) crash(keep []int) {
	if p.lost {
		return
	}
	i := 0
	for at := range p.stands {
		l := p.versions(at)
		if len(l) == 0 {
			continue
		}
		if i < len(keep) {
			l = append([]string{p.stands[at]}, l...)
			p.stands[at] = l[(keep[i]%len(l)+len(l))%len(l)]
		}
		i++
	}
	p.row, p.fuse = nil, -1
}

func (p *plain) spoil(at, place int, by byte) {
	b := []byte(p.read(at))
	b[place] ^= by
	for i := len(p.row) - 1; i >= 0; i-- {
		if p.row[i].at == at {
			p.row[i].s = string(b)
			return
		}
	}
	p.stands[at] = string(b)
}

func (p *plain) fresh(fill byte) {
	for at := range p.stands {
		p.stands[at] = full(fill)
	}
	p.row, p.lost, p.fuse = nil, false, -1
}

// numbers answers a function that answers numbers from 0 to below n, the same ones each time for one seed.
func numbers(seed uint64) func(n int) int {
	x := seed*2862933555777941757 + 3037000493
	return func(n int) int {
		x = x*6364136223846793005 + 1442695040888963407
		return int(x>>33) % n
	}
}

// step does one thing, picked by next, to a device and to a plain one, and holds what they answer against each other.
func step(t *testing.T, d *Dev, p *plain, next func(n int) int) {
	t.Helper()
	at := next(len(p.stands))
	switch next(16) {
	case 0, 1, 2, 3, 4, 5, 6:
		s, want := mixed(next(1000)), api.ErrLost
		if p.taken() {
			p.row, want = append(p.row, written{at, s}), api.OK
		}
		if e := d.Write(at, s); e != want {
			t.Fatalf("Write(%d) = %d, want %d", at, e, want)
		}
	case 7, 8:
		want := api.ErrLost
		if p.taken() {
			for at := range p.stands {
				p.stands[at] = p.read(at)
			}
			p.row, want = nil, api.OK
		}
		if e := d.Flush(); e != want {
			t.Fatalf("Flush = %d, want %d", e, want)
		}
	case 9, 10:
		var keep []int
		for range next(5) {
			keep = append(keep, next(20)-10)
		}
		p.crash(keep)
		d.Crash(keep)
	case 11, 12:
		place, by := next(api.Sector), byte(1+next(255))
		if !p.lost {
			p.spoil(at, place, by)
		}
		if ok := d.Spoil(at, place-api.Sector*next(3), by); ok == p.lost {
			t.Fatalf("Spoil(%d) = %t of lost %t", at, ok, p.lost)
		}
	case 13:
		p.lost, p.row = true, nil
		d.Lose()
	case 14:
		fill := byte(next(256))
		p.fresh(fill)
		d.Fresh(fill)
	case 15:
		p.fuse = next(6)
		d.Fuse(p.fuse)
	}
}

// alike holds all that a device answers against a plain one.
func alike(t *testing.T, d *Dev, p *plain) {
	t.Helper()
	var l []int
	for at := range p.stands {
		want, e := p.read(at), api.OK
		if p.lost {
			want, e = "", api.ErrLost
		}
		if s, got := d.Read(at); s != want || got != e {
			t.Fatalf("Read(%d) = %q, %d, want %q, %d", at, s, got, want, e)
		}
		if len(p.versions(at)) > 0 {
			l = append(l, at)
		}
	}
	if !slices.Equal(d.Cached(), l) || d.Lost() != p.lost || d.Secs() != len(p.stands) {
		t.Fatalf("Cached = %v, Lost = %t, Secs = %d, want %v, %t", d.Cached(), d.Lost(), d.Secs(), l, p.lost)
	}
}

// Promise 4.3, and 4.1 and 4.2 with it: whatever befalls a device, it answers what the chapter's words come to.
func TestWhateverBefalls(t *testing.T) {
	for seed := range 300 {
		next := numbers(uint64(seed))
		secs := 1 + next(6)
		d, p := made(t, secs), &plain{stands: make([]string, secs), fuse: -1}
		p.fresh(0)
		for range 150 {
			step(t, d, p, next)
			alike(t, d, p)
		}
	}
}

// Promise 4.3: what was written is read till it is written over, whatever is written elsewhere, flushed or set.
func TestReadTillWrittenOver(t *testing.T) {
	d := made(t, 8)
	write(t, d, 3, mixed(1))
	for i := range 50 {
		if at := i % 8; at != 3 {
			write(t, d, at, mixed(i))
		}
		if i%7 == 0 {
			flush(t, d)
		}
		d.Spoil(4, i, 1)
		reads(t, d, 3, mixed(1))
	}
	d.Fuse(0)
	d.Write(3, mixed(2))
	d.Write(3, "short")
	d.Flush()
	reads(t, d, 3, mixed(1))
	d.Crash(nil)
	write(t, d, 3, mixed(2))
	reads(t, d, 3, mixed(2))
}

// Promise 4.3: what was flushed stays through crashes, whatever they keep of sectors that weren't written since.
func TestFlushedStays(t *testing.T) {
	d := made(t, 6)
	for at := range 6 {
		write(t, d, at, mixed(at))
	}
	flush(t, d)
	for n := -20; n < 20; n++ {
		write(t, d, 5, full('x'))
		d.Crash([]int{n, n, n, n, n, n})
		for at := range 5 {
			reads(t, d, at, mixed(at))
		}
	}
}
