package vdev

import (
	"math"
	"slices"
	"strings"
	"testing"

	"polder/api"
	"polder/code"
	"polder/cols"
	"polder/dev"
	"polder/geom"
)

// mirror and parity answer a group of so many devices.
func mirror(wide int) api.Group { return api.Group{Kind: api.Mirror, Wide: wide} }
func parity(wide int) api.Group { return api.Group{Kind: api.Parity, Wide: wide} }

// measure answers a measure of these groups.
func measure(secs int, l ...api.Group) api.Geom { return api.Geom{Groups: l, Secs: secs} }

// place answers a place.
func place(group, at int) api.Place { return api.Place{Group: group, At: at} }

// full answers a sector full of a byte.
func full(b byte) string { return strings.Repeat(string([]byte{b}), 64) }

// fulls answers a text with a sector for each byte of s.
func fulls(s string) string {
	var b strings.Builder
	for i := range len(s) {
		b.WriteString(full(s[i]))
	}
	return b.String()
}

// text answers a block's text of so many sectors, no two bytes at the same place of two sectors alike.
func text(seed, size int) string {
	var b []byte
	for i := range size {
		for k := range 64 {
			b = append(b, byte(seed+i*37+k*5+k*k))
		}
	}
	return string(b)
}

// groups answers all groups that are right.
func groups() []api.Group {
	var l []api.Group
	for wide := 1; wide <= 8; wide++ {
		l = append(l, mirror(wide))
	}
	for wide := 3; wide <= 8; wide++ {
		l = append(l, parity(wide))
	}
	return l
}

// wrong answers measures that aren't right.
func wrong() []api.Geom {
	return []api.Geom{
		{},
		{Secs: 40},
		measure(40, mirror(0)),
		measure(40, mirror(-1)),
		measure(40, mirror(9)),
		measure(40, mirror(math.MaxInt)),
		measure(40, mirror(math.MinInt)),
		measure(40, parity(2)),
		measure(40, parity(1)),
		measure(40, parity(0)),
		measure(40, parity(9)),
		measure(40, api.Group{Kind: 2, Wide: 3}),
		measure(40, api.Group{Kind: -1, Wide: 3}),
		measure(40, mirror(2), parity(2)),
		measure(40, mirror(1), mirror(1), mirror(1), mirror(1), mirror(1)),
		measure(23, mirror(2)),
		measure(0, mirror(2)),
		measure(-40, mirror(2)),
		measure(4097, mirror(2)),
		measure(math.MaxInt, mirror(2)),
		measure(math.MinInt, mirror(2)),
	}
}

// made answers a measure's new devices.
func made(t *testing.T, g api.Geom, fill byte) Devs {
	t.Helper()
	x, e := New(g, fill)
	if e != api.OK {
		t.Fatalf("New(%v, %d) = %d", g, fill, e)
	}
	return x
}

// marked answers a measure's new devices, each sector of which has a text of its own on the medium.
func marked(t *testing.T, g api.Geom) Devs {
	t.Helper()
	x := made(t, g, 0)
	for i, d := range x.L {
		for at := range g.Secs {
			if e := d.Write(at, text(i*101+at*7+1, 1)); e != api.OK {
				t.Fatalf("%v: device %d, sector %d: %d", g, i, at, e)
			}
		}
		if e := d.Flush(); e != api.OK {
			t.Fatalf("%v: device %d: %d", g, i, e)
		}
	}
	return x
}

// image answers what each sector of each device reads as: nothing of a lost one.
func image(x Devs) [][]string {
	l := make([][]string, len(x.L))
	for i, d := range x.L {
		for at := range d.Secs() {
			s, _ := d.Read(at)
			l[i] = append(l[i], s)
		}
	}
	return l
}

// sameImage tells whether two images are alike.
func sameImage(a, b [][]string) bool {
	return slices.EqualFunc(a, b, func(a, b []string) bool { return slices.Equal(a, b) })
}

// cached answers how many sectors of all devices are in caches.
func cached(x Devs) int {
	n := 0
	for _, d := range x.L {
		n += len(d.Cached())
	}
	return n
}

// crash lets all devices crash, keeping of each cached sector what the number tells.
func crash(x Devs, number int) {
	keep := make([]int, x.G.Secs)
	for i := range keep {
		keep[i] = number
	}
	for _, d := range x.L {
		d.Crash(keep)
	}
}

// block is a block of a measure.
type block struct {
	g    api.Geom
	p    api.Place
	size int
}

// blocks goes through blocks of each size in each right group, alone and among others: from the first place on, from one further on, and up to the last one.
func blocks(yield func(b block)) {
	for _, p := range groups() {
		for _, c := range []struct {
			g     api.Geom
			group int
		}{{measure(24, p), 0}, {measure(25, mirror(2), p, parity(3)), 1}} {
			for size := 1; size <= 4; size++ {
				last := geom.Sectors(c.g, c.group) - geom.Takes(c.g, c.group, size)
				for _, at := range slices.Compact([]int{0, min(3, last), last}) {
					yield(block{c.g, place(c.group, at), size})
				}
			}
		}
	}
}

// columns answers a block's columns.
func (b block) columns(t *testing.T) []api.Col {
	t.Helper()
	l, e := cols.Of(b.g, b.p, b.size)
	if e != api.OK {
		t.Fatalf("%v has no columns: %d", b, e)
	}
	return l
}

// encoded answers a text's columns' texts.
func (b block) encoded(t *testing.T, s string) []string {
	t.Helper()
	l, e := code.Encode(b.g, b.p, s)
	if e != api.OK {
		t.Fatalf("%v isn't encoded: %d", b, e)
	}
	return l
}

// mirrored tells whether a block is a Mirror's.
func (b block) mirrored() bool { return b.g.Groups[b.p.Group].Kind == api.Mirror }

// devices answers all devices of a block's group.
func (b block) devices() []int {
	var l []int
	for i := range b.g.Groups[b.p.Group].Wide {
		l = append(l, geom.First(b.g, b.p.Group)+i)
	}
	return l
}

// error answers what Write answers, if so many devices didn't take their columns.
func (b block) error(failed int) api.Errno {
	if b.mirrored() && failed == b.g.Groups[b.p.Group].Wide || !b.mirrored() && failed > 1 {
		return api.ErrLost
	}
	return api.OK
}

// harm is what keeps a device from taking what is written.
type harm struct {
	name string
	here bool // whether it is read nevertheless
	do   func(x Devs, d int)
}

// harms answers all of them.
func harms() []harm {
	return []harm{
		{"away", false, func(x Devs, d int) { x.Away[d] = true }},
		{"lost", false, func(x Devs, d int) { x.L[d].Lose() }},
		{"away and lost", false, func(x Devs, d int) { x.Away[d] = true; x.L[d].Lose() }},
		{"fused", true, func(x Devs, d int) { x.L[d].Fuse(0) }},
	}
}

// choices goes through choices of a list's elements: none, each one, each two, the first so many, all but one, and all.
func choices(l []int, yield func(l []int)) {
	for n := range 1 << len(l) {
		var some []int
		for i, v := range l {
			if n>>i&1 == 1 {
				some = append(some, v)
			}
		}
		if first := slices.Equal(some, l[:len(some)]); first || len(some) <= 2 || len(some) >= len(l)-1 {
			yield(some)
		}
	}
}

// Promise 8.1: New, of each right group, alone and among others: as many devices, all here, each sector full of the byte.
func TestNew(t *testing.T) {
	for _, p := range groups() {
		for _, g := range []api.Geom{measure(24, p), measure(40, mirror(1), p), measure(25, p, parity(3), p, mirror(2))} {
			for _, fill := range []byte{0, 1, 'z', 128, 255} {
				x := made(t, g, fill)
				if n := geom.Devs(g); len(x.L) != n || len(x.Away) != n || x.G.Secs != g.Secs || !slices.Equal(x.G.Groups, g.Groups) {
					t.Fatalf("New(%v): %d devices, %d marks, %v", g, len(x.L), len(x.Away), x.G)
				}
				for d := range x.L {
					if x.Away[d] || x.L[d].Lost() || x.L[d].Secs() != g.Secs || !Here(x, d) {
						t.Fatalf("New(%v): device %d isn't here", g, d)
					}
					if want := slices.Repeat([]string{full(fill)}, g.Secs); !slices.Equal(image(x)[d], want) {
						t.Fatalf("New(%v, %d): device %d is full of %q", g, fill, d, image(x)[d])
					}
				}
			}
		}
	}
}

// Promise 8.1: New, of as many groups, devices and sectors as there may be.
func TestNewGreatest(t *testing.T) {
	x := made(t, measure(4096, mirror(8), parity(8), parity(8), mirror(8)), 'g')
	if len(x.L) != 32 || len(x.Away) != 32 || !Right(x) || !Here(x, 31) || Here(x, 32) {
		t.Fatalf("New: %d devices, %d marks", len(x.L), len(x.Away))
	}
	for d := range x.L {
		if s, e := x.L[d].Read(4095); s != full('g') || e != api.OK {
			t.Fatalf("device %d ends with %q, %d", d, s, e)
		}
	}
}

// Promise 8.1: what New's devices are full of stands on the medium, and nothing in a cache; no two of them are one device; none has a fuse.
func TestNewDevices(t *testing.T) {
	x := made(t, measure(24, mirror(3), parity(4)), 'n')
	if n := cached(x); n != 0 {
		t.Errorf("%d sectors are in caches", n)
	}
	was := image(x)
	crash(x, 0)
	if !sameImage(image(x), was) {
		t.Errorf("a crash changed new devices")
	}
	for d := range x.L {
		if e := x.L[d].Write(20, full(byte('A'+d))); e != api.OK {
			t.Errorf("device %d: %d", d, e)
		}
		was[d][20] = full(byte('A' + d))
	}
	if !sameImage(image(x), was) {
		t.Errorf("two devices are one")
	}
}

// Promise 8.1: New, ErrArg of a measure that isn't right, and nothing beside it.
func TestNewWrong(t *testing.T) {
	for _, g := range wrong() {
		x, e := New(g, 'z')
		if e != api.ErrArg || len(x.L) != 0 || len(x.Away) != 0 || len(x.G.Groups) != 0 || x.G.Secs != 0 {
			t.Errorf("New(%v) = %v, %d", g, x, e)
		}
	}
}

// Promise 8.1, rule 4: New keeps nothing that is handed in, and its answers share nothing.
func TestNewIsNew(t *testing.T) {
	room := []api.Group{mirror(2), parity(3), mirror(7)}
	g := api.Geom{Groups: room[:2], Secs: 24}
	one, two := made(t, g, 'a'), made(t, g, 'a')
	room[0], room[1] = mirror(8), parity(8)
	if !slices.Equal(one.G.Groups, []api.Group{mirror(2), parity(3)}) || !Right(one) {
		t.Errorf("New kept what was handed in: %v", one.G)
	}
	one.G.Groups[0] = mirror(5)
	one.Away[1] = true
	one.L[2].Lose()
	one.L[0], one.L[4] = nil, nil
	_ = append(one.G.Groups[:1], mirror(6))
	for d := range 5 {
		if !Here(two, d) {
			t.Errorf("two answers of New share device %d", d)
		}
	}
	if room[2] != mirror(7) || room[0] != mirror(8) {
		t.Errorf("New's answer shares what was handed in: %v", room)
	}
}

// Promise 8.1: Right, of new devices, whatever is away, lost, fused, spoilt or cached.
func TestRight(t *testing.T) {
	for _, p := range groups() {
		x := made(t, measure(24, parity(5), p), 'r')
		if !Right(x) {
			t.Fatalf("new devices of %v aren't right", x.G)
		}
		for d := range x.L {
			for _, h := range harms() {
				h.do(x, d)
				if !Right(x) {
					t.Fatalf("%v: not right with device %d %s", x.G, d, h.name)
				}
			}
		}
	}
	x := made(t, measure(24, mirror(2)), 'r')
	x.L[0].Write(0, full('s'))
	x.L[1].Spoil(23, 0, 1)
	if !Right(x) {
		t.Errorf("not right with a sector written and one spoilt")
	}
}

// unlike goes through devices that aren't right, each beside what it is.
func unlike(t *testing.T, yield func(what string, x Devs)) {
	t.Helper()
	yield("nothing", Devs{})
	unlikeMeasures(t, yield)
	unlikeNumbers(t, yield)
	unlikeDevices(t, yield)
}

// likeOnes answers five devices that are right, of which others are made that aren't.
func likeOnes(t *testing.T) Devs {
	t.Helper()
	return made(t, measure(40, mirror(2), parity(3)), 'u')
}

// unlikeMeasures goes through devices of wrong measures, and of others than theirs.
func unlikeMeasures(t *testing.T, yield func(what string, x Devs)) {
	t.Helper()
	with := func(what string, g api.Geom) {
		x := likeOnes(t)
		x.G = g
		yield(what, x)
	}
	for _, g := range wrong() {
		with("a wrong measure", g)
		yield("a wrong measure alone", Devs{G: g})
	}
	with("a wrong measure of as many devices", measure(40, mirror(3), parity(2)))
	with("a wrong measure of as many devices", measure(40, mirror(5), mirror(0)))
	with("a wrong measure of as many devices", measure(40, mirror(1), mirror(1), mirror(1), mirror(1), mirror(1)))
	with("a measure of other sectors", measure(41, mirror(2), parity(3)))
	with("a measure of more devices", measure(40, mirror(2), parity(4)))
	with("a measure of fewer devices", measure(40, mirror(2)))
	x := Devs{G: measure(23, mirror(1)), L: make([]*dev.Dev, 1), Away: make([]bool, 1)}
	x.L[0], _ = dev.New(23)
	yield("devices of a wrong measure's sectors", x)
	yield("a nil device of no sectors", Devs{G: measure(0, mirror(1)), L: make([]*dev.Dev, 1), Away: make([]bool, 1)})
}

// unlikeNumbers goes through fewer and more devices and marks than a measure has.
func unlikeNumbers(t *testing.T, yield func(what string, x Devs)) {
	t.Helper()
	for n := range 5 {
		x := likeOnes(t)
		x.L = x.L[:n]
		yield("fewer devices", x)
		x = likeOnes(t)
		x.Away = x.Away[:n]
		yield("fewer marks", x)
		x.L = x.L[:n]
		yield("fewer of both", x)
	}
	x := likeOnes(t)
	x.L = append(x.L, likeOnes(t).L[0])
	yield("a device more", x)
	x.Away = append(x.Away, false)
	yield("one of both more", x)
	x.L = x.L[:5]
	yield("a mark more", x)
}

// unlikeDevices goes through devices one of which is nil, or has other sectors, each in turn.
func unlikeDevices(t *testing.T, yield func(what string, x Devs)) {
	t.Helper()
	for d := range 5 {
		x := likeOnes(t)
		x.L[d] = nil
		yield("a nil device", x)
		x.Away[d] = true
		yield("a nil device that is away", x)
		for _, secs := range []int{1, 24, 39, 41, 4096} {
			x = likeOnes(t)
			x.L[d], _ = dev.New(secs)
			yield("a device of other sectors", x)
			x.L[d].Lose()
			yield("a lost device of other sectors", x)
		}
	}
}

// Promise 8.1: Right, not of a wrong measure, other numbers of devices or marks, a nil device, or one of other sectors.
func TestRightWrong(t *testing.T) {
	unlike(t, func(what string, x Devs) {
		if Right(x) {
			t.Errorf("%s: %v is right", what, x)
		}
	})
}

// Promise 8.1: Here, of each device, till it is away, or lost, and once it is back.
func TestHere(t *testing.T) {
	for _, g := range []api.Geom{measure(24, mirror(1)), measure(24, parity(3)), measure(24, mirror(8), parity(8)), measure(30, parity(4), mirror(2), mirror(3))} {
		n := geom.Devs(g)
		for d := range n {
			for _, h := range harms() {
				x := made(t, g, 'h')
				h.do(x, d)
				for other := range n {
					if want := other != d || h.here; Here(x, other) != want {
						t.Fatalf("%v, device %d %s: Here(%d) = %t", g, d, h.name, other, !want)
					}
				}
				x.Away[d] = false
				x.L[d].Fresh('i')
				if !Here(x, d) {
					t.Fatalf("%v: device %d isn't here again", g, d)
				}
			}
		}
		for _, d := range []int{-1, -2, n, n + 1, n + 32, math.MinInt, math.MaxInt} {
			if Here(made(t, g, 'h'), d) {
				t.Errorf("%v: Here(%d)", g, d)
			}
		}
	}
}

// Promise 8.1: Here, false of all devices, if they aren't right.
func TestHereWrong(t *testing.T) {
	unlike(t, func(what string, x Devs) {
		for d := -1; d < 7; d++ {
			if Here(x, d) {
				t.Fatalf("%s: Here(%v, %d)", what, x, d)
			}
		}
	})
}

// byHand answers blocks, and what is to stand where, written out: a letter for a sector full of it, of a Parity also what two letters or more come to.
func byHand() []struct {
	g     api.Geom
	p     api.Place
	s     string
	on    []api.Col // its device and sector alone
	texts string
} {
	type at = api.Col
	two := measure(40, mirror(2), parity(3))
	return []struct {
		g     api.Geom
		p     api.Place
		s     string
		on    []api.Col
		texts string
	}{
		{measure(24, mirror(1)), place(0, 0), "a", []at{{Dev: 0, At: 16}}, "a"},
		{measure(24, mirror(1)), place(0, 4), "abcd", []at{{Dev: 0, At: 20}, {Dev: 0, At: 21}, {Dev: 0, At: 22}, {Dev: 0, At: 23}}, "abcd"},
		{two, place(0, 5), "ab", []at{{Dev: 0, At: 21}, {Dev: 0, At: 22}, {Dev: 1, At: 21}, {Dev: 1, At: 22}}, "abab"},
		{two, place(1, 4), "ab", []at{{Dev: 3, At: 17}, {Dev: 4, At: 17}, {Dev: 2, At: 18}}, "\x03ab"},
		{two, place(1, 1), "a", []at{{Dev: 3, At: 16}, {Dev: 4, At: 16}}, "aa"},
		{two, place(1, 66), "abd", []at{{Dev: 2, At: 38}, {Dev: 3, At: 38}, {Dev: 4, At: 38}, {Dev: 2, At: 39}, {Dev: 3, At: 39}}, "\x03abdd"},
		{measure(24, parity(8)), place(0, 7), "abc", []at{{Dev: 7, At: 16}, {Dev: 0, At: 17}, {Dev: 1, At: 17}, {Dev: 2, At: 17}}, "`abc"},
	}
}

// Promise 8.1: Raw, by hand.
func TestRaw(t *testing.T) {
	for _, c := range byHand() {
		x := made(t, c.g, '.')
		for k, on := range c.on {
			if e := x.L[on.Dev].Write(on.At, full(c.texts[k])); e != api.OK {
				t.Fatal(e)
			}
		}
		for _, away := range []int{-1, 0, 1, 2} {
			var want []string
			for k, on := range c.on {
				if s := full(c.texts[k]); on.Dev == away {
					want = append(want, "")
				} else {
					want = append(want, s)
				}
			}
			if away >= 0 && away < len(x.Away) {
				x.Away[away] = true
			}
			if l, e := Raw(x, c.p, len(c.s)); !slices.Equal(l, want) || e != api.OK {
				t.Errorf("Raw(%v, %v, %d), %d away = %q, %d", c.g, c.p, len(c.s), away, l, e)
			}
			if away >= 0 && away < len(x.Away) {
				x.Away[away] = false
			}
		}
	}
}

// Promise 8.1: Raw, of what was never written, with choices of the group's devices away, lost or fused: each column as its sector is, nothing of one that isn't here.
func TestRawAll(t *testing.T) {
	blocks(func(b block) {
		l := b.columns(t)
		whole := image(marked(t, b.g))
		for _, h := range harms() {
			choices(b.devices(), func(some []int) {
				x := made(t, b.g, 0)
				for k, c := range l {
					x.L[c.Dev].Write(c.At, whole[c.Dev][c.At])
					if k%2 == 0 {
						x.L[c.Dev].Flush()
					}
				}
				for _, d := range some {
					h.do(x, d)
				}
				var want []string
				for _, c := range l {
					if slices.Contains(some, c.Dev) && !h.here {
						want = append(want, "")
					} else {
						want = append(want, whole[c.Dev][c.At])
					}
				}
				if got, e := Raw(x, b.p, b.size); !slices.Equal(got, want) || e != api.OK {
					t.Fatalf("Raw of %v, %v %s: %d, another answer", b, some, h.name, e)
				}
			})
		}
	})
}

// Promise 8.1: Raw, whatever device of another group isn't here.
func TestRawOtherGroups(t *testing.T) {
	blocks(func(b block) {
		x := marked(t, b.g)
		want, e := Raw(x, b.p, b.size)
		if e != api.OK || slices.Contains(want, "") {
			t.Fatalf("Raw of %v: %d", b, e)
		}
		for d := range x.L {
			if !slices.Contains(b.devices(), d) {
				x.Away[d] = true
				x.L[d].Lose()
			}
		}
		if got, e := Raw(x, b.p, b.size); !slices.Equal(got, want) || e != api.OK {
			t.Fatalf("Raw of %v with other groups lost: %d", b, e)
		}
	})
}

// Promise 8.1, rule 4: Raw changes nothing, and answers new memory.
func TestRawChangesNothing(t *testing.T) {
	x := marked(t, measure(24, mirror(2), parity(3)))
	x.L[1].Write(16, full('c'))
	x.L[3].Fuse(2)
	was := image(x)
	one, _ := Raw(x, place(0, 0), 2)
	two, _ := Raw(x, place(0, 0), 2)
	for k := range one {
		one[k] = "x"
	}
	if want := []string{was[0][16], was[0][17], full('c'), was[1][17]}; !slices.Equal(two, want) {
		t.Errorf("two answers of Raw share memory: %q", two)
	}
	Raw(x, place(1, 0), 4)
	if !sameImage(image(x), was) || cached(x) != 1 {
		t.Errorf("Raw changed the devices")
	}
	for range 2 {
		if e := x.L[3].Write(20, full('f')); e != api.OK {
			t.Errorf("Raw counted for a fuse")
		}
	}
}

// wrongBlocks goes through places and sizes of which a measure of a Mirror of 2 and a Parity of 3, of 40 sectors, has no columns.
func wrongBlocks(yield func(p api.Place, size int)) {
	for _, size := range []int{0, -1, 5, 64, math.MinInt, math.MaxInt} {
		yield(place(0, 0), size)
		yield(place(1, 0), size)
		yield(place(2, 0), size)
	}
	for size := 1; size <= 4; size++ {
		for _, group := range []int{-1, 2, 3, math.MinInt, math.MaxInt} {
			yield(place(group, 0), size)
		}
		for _, at := range []int{-1, -16, -64, math.MinInt, math.MaxInt, math.MaxInt - 1, 72, 4096} {
			yield(place(0, at), size)
			yield(place(1, at), size)
		}
		yield(place(0, 24-size+1), size)
		yield(place(1, 72-[]int{2, 4, 6, 6}[size-1]+1), size)
	}
}

// Promise 8.1: Raw, ErrArg of devices that aren't right, and where layer 6 has no columns.
func TestRawWrong(t *testing.T) {
	unlike(t, func(what string, x Devs) {
		for size := range 6 {
			if l, e := Raw(x, place(0, 0), size); len(l) != 0 || e != api.ErrArg {
				t.Fatalf("%s: Raw(%v) = %q, %d", what, x, l, e)
			}
		}
	})
	x := made(t, measure(40, mirror(2), parity(3)), 'w')
	wrongBlocks(func(p api.Place, size int) {
		if l, e := Raw(x, p, size); len(l) != 0 || e != api.ErrArg {
			t.Errorf("Raw(%v, %d) = %q, %d", p, size, l, e)
		}
	})
}

// Promise 8.2: the chapter's example.
func TestWriteExample(t *testing.T) {
	for away := range 2 {
		x := made(t, measure(24, mirror(2)), 0)
		x.Away[away] = true
		if n, e := Write(x, place(0, 0), full('a')); n != 1 || e != api.OK {
			t.Errorf("Write, %d away = %d, %d", away, n, e)
		}
	}
}

// Promise 8.2: Write, by hand: these sectors are written, and no others.
func TestWrite(t *testing.T) {
	for _, c := range byHand() {
		x := marked(t, c.g)
		want := image(x)
		for k, on := range c.on {
			want[on.Dev][on.At] = full(c.texts[k])
		}
		if n, e := Write(x, c.p, fulls(c.s)); n != 0 || e != api.OK {
			t.Errorf("Write(%v, %v, %q) = %d, %d", c.g, c.p, c.s, n, e)
		}
		if !sameImage(image(x), want) {
			t.Errorf("Write(%v, %v, %q) wrote other sectors", c.g, c.p, c.s)
		}
	}
}

// Promise 8.2: Write, how many weren't taken, and when that is too many, by hand.
func TestWriteLost(t *testing.T) {
	m1, m2, m3, m8 := measure(24, mirror(1)), measure(24, mirror(2)), measure(24, mirror(3)), measure(24, mirror(8))
	p3, p4, p8 := measure(24, parity(3)), measure(24, parity(4)), measure(24, parity(8))
	cases := []struct {
		g    api.Geom
		at   int
		size int
		gone []int
		n    int
		e    api.Errno
	}{
		{m1, 0, 1, nil, 0, api.OK},
		{m1, 0, 1, []int{0}, 1, api.ErrLost},
		{m1, 4, 4, []int{0}, 1, api.ErrLost},
		{m2, 0, 4, []int{1}, 1, api.OK},
		{m2, 0, 4, []int{0, 1}, 2, api.ErrLost},
		{m3, 0, 2, []int{0, 2}, 2, api.OK},
		{m3, 0, 2, []int{0, 1, 2}, 3, api.ErrLost},
		{m8, 0, 4, []int{0, 1, 2, 3, 4, 5, 6}, 7, api.OK},
		{m8, 0, 1, []int{0, 1, 2, 3, 4, 5, 6, 7}, 8, api.ErrLost},
		// Of a Parity of 3, a block of 1 sector from 0 on has the parity on 0 and the data on 1.
		{p3, 0, 1, []int{0}, 1, api.OK},
		{p3, 0, 1, []int{1}, 1, api.OK},
		{p3, 0, 1, []int{2}, 0, api.OK},
		{p3, 0, 1, []int{0, 2}, 1, api.OK},
		{p3, 0, 1, []int{0, 1}, 2, api.ErrLost},
		{p3, 0, 1, []int{0, 1, 2}, 2, api.ErrLost},
		// Two rows, two columns of each device: a device counts once.
		{p3, 0, 4, []int{0}, 1, api.OK},
		{p3, 0, 4, []int{0, 1}, 2, api.ErrLost},
		{p3, 0, 4, []int{0, 1, 2}, 3, api.ErrLost},
		{p4, 2, 2, []int{0, 1}, 1, api.OK},
		{p4, 2, 2, []int{0, 2}, 2, api.ErrLost},
		{p8, 6, 1, []int{0, 1, 2, 3, 4, 5}, 0, api.OK},
		{p8, 6, 1, []int{0, 1, 2, 3, 4, 5, 7}, 1, api.OK},
		{p8, 6, 1, []int{6, 7}, 2, api.ErrLost},
		{p8, 6, 1, []int{0, 1, 2, 3, 4, 5, 6, 7}, 2, api.ErrLost},
		{p8, 6, 4, []int{0, 1, 2, 3, 4, 5, 6, 7}, 5, api.ErrLost},
	}
	for _, c := range cases {
		for _, h := range harms() {
			x := made(t, c.g, 0)
			for _, d := range c.gone {
				h.do(x, d)
			}
			if n, e := Write(x, place(0, c.at), text(1, c.size)); n != c.n || e != c.e {
				t.Errorf("Write of %v, from %d on, of %d, %v %s = %d, %d, want %d, %d", c.g, c.at, c.size, c.gone, h.name, n, e, c.n, c.e)
			}
		}
	}
}

// Promise 8.2: Write, with choices of the group's devices away, lost or fused: the columns of all others are written, also where it is ErrLost, and no other sectors.
func TestWriteAll(t *testing.T) {
	blocks(func(b block) {
		l, s := b.columns(t), text(b.p.At+9, b.size)
		texts := b.encoded(t, s)
		for _, h := range harms() {
			choices(b.devices(), func(some []int) {
				x := made(t, b.g, '.')
				for _, d := range some {
					h.do(x, d)
				}
				want, failed := image(x), map[int]int{}
				for k, c := range l {
					if slices.Contains(some, c.Dev) {
						failed[c.Dev]++
					} else {
						want[c.Dev][c.At] = texts[k]
					}
				}
				n, e := Write(x, b.p, s)
				if n != len(failed) || e != b.error(n) {
					t.Fatalf("Write of %v, %v %s = %d, %d, want %d", b, some, h.name, n, e, len(failed))
				}
				if !sameImage(image(x), want) {
					t.Fatalf("Write of %v, %v %s wrote other sectors", b, some, h.name)
				}
			})
		}
	})
}

// Promise 8.2: Write, some devices away, one lost, one fused: they count together.
func TestWriteMixed(t *testing.T) {
	x := made(t, measure(24, mirror(4), parity(4)), 0)
	x.Away[0], x.Away[4] = true, true
	x.L[1].Lose()
	x.L[2].Fuse(0)
	if n, e := Write(x, place(0, 0), text(1, 3)); n != 3 || e != api.OK {
		t.Errorf("Write = %d, %d", n, e)
	}
	if n, e := Write(x, place(1, 0), text(1, 3)); n != 1 || e != api.OK {
		t.Errorf("Write = %d, %d", n, e)
	}
	x.L[3].Lose()
	x.L[5].Fuse(0)
	if n, e := Write(x, place(0, 0), text(1, 3)); n != 4 || e != api.ErrLost {
		t.Errorf("Write = %d, %d", n, e)
	}
	if n, e := Write(x, place(1, 0), text(1, 3)); n != 2 || e != api.ErrLost {
		t.Errorf("Write = %d, %d", n, e)
	}
}

// Promise 8.2: Write, a device's fuse goes off within a block: it takes its first columns, in order, and counts as one that didn't take its columns, unless it took all of them.
func TestWriteFusedWithin(t *testing.T) {
	blocks(func(b block) {
		l, s := b.columns(t), text(b.p.At+4, b.size)
		texts := b.encoded(t, s)
		for _, d := range b.devices() {
			for fuse := range 6 {
				x := made(t, b.g, '.')
				x.L[d].Fuse(fuse)
				want, left, failed := image(x), fuse, 0
				for k, c := range l {
					if c.Dev != d || left > 0 {
						want[c.Dev][c.At] = texts[k]
					} else {
						failed = 1
					}
					if c.Dev == d {
						left--
					}
				}
				if n, e := Write(x, b.p, s); n != failed || e != b.error(n) {
					t.Fatalf("Write of %v, device %d with a fuse of %d = %d, %d", b, d, fuse, n, e)
				}
				if !sameImage(image(x), want) {
					t.Fatalf("Write of %v, device %d with a fuse of %d wrote other sectors", b, d, fuse)
				}
			}
		}
	})
}

// Promise 8.2: Write, all devices' fuses go off within a block: of a Mirror all of them didn't take it, of a Parity as many as have more columns.
func TestWriteAllFused(t *testing.T) {
	blocks(func(b block) {
		of := map[int]int{}
		for _, c := range b.columns(t) {
			of[c.Dev]++
		}
		for fuse := range 5 {
			x := made(t, b.g, '.')
			failed := 0
			for _, d := range b.devices() {
				x.L[d].Fuse(fuse)
				if of[d] > fuse {
					failed++
				}
			}
			if n, e := Write(x, b.p, text(1, b.size)); n != failed || e != b.error(n) {
				t.Fatalf("Write of %v, all with a fuse of %d = %d, %d", b, fuse, n, e)
			}
		}
	})
}

// Promise 8.2: Write, whatever device of another group isn't here: none of them counts, and none is written.
func TestWriteOtherGroups(t *testing.T) {
	blocks(func(b block) {
		for _, h := range harms() {
			x := marked(t, b.g)
			for d := range x.L {
				if !slices.Contains(b.devices(), d) {
					h.do(x, d)
				}
			}
			want := image(x)
			s := text(b.p.At, b.size)
			for k, c := range b.columns(t) {
				want[c.Dev][c.At] = b.encoded(t, s)[k]
			}
			if n, e := Write(x, b.p, s); n != 0 || e != api.OK || !sameImage(image(x), want) {
				t.Fatalf("Write of %v with other groups %s = %d, %d", b, h.name, n, e)
			}
		}
	})
}

// Promise 8.2: Write, each column once, and nothing is flushed: a crash keeps what was, or the one version that was written.
func TestWriteIsCached(t *testing.T) {
	blocks(func(b block) {
		l, s := b.columns(t), text(b.p.At, b.size)
		for number := range 3 {
			x := marked(t, b.g)
			was := image(x)
			Write(x, b.p, s)
			if n := cached(x); n != len(l) {
				t.Fatalf("Write of %v: %d sectors are in caches, want %d", b, n, len(l))
			}
			written := image(x)
			crash(x, number)
			want := was
			if number == 1 {
				want = written
			}
			if !sameImage(image(x), want) {
				t.Fatalf("Write of %v: a crash that keeps %d leaves other sectors", b, number)
			}
		}
	})
}

// wrongTexts answers texts that are no block's.
func wrongTexts() []string {
	var l []string
	for _, n := range []int{0, 1, 63, 65, 127, 129, 191, 255, 257, 319, 320, 384, 4096} {
		l = append(l, strings.Repeat("w", n))
	}
	return l
}

// refused goes through what Write and Mend refuse on devices that are right, a Mirror of 2 and a Parity of 3, of 40 sectors.
func refused(yield func(p api.Place, s string)) {
	for _, s := range wrongTexts() {
		for group := -1; group < 3; group++ {
			yield(place(group, 0), s)
		}
	}
	wrongBlocks(func(p api.Place, size int) {
		if size >= 0 && size <= 64 {
			yield(p, text(1, size))
		}
	})
}

// Promise 8.2: Write, ErrArg and 0 of devices that aren't right, of what is no block's text, and where layer 7 has no columns; nothing is written then.
func TestWriteWrong(t *testing.T) {
	unlike(t, func(what string, x Devs) {
		was := image(x)
		for size := range 6 {
			if n, e := Write(x, place(0, 0), text(1, size)); n != 0 || e != api.ErrArg {
				t.Fatalf("%s: Write(%v) = %d, %d", what, x, n, e)
			}
		}
		if !sameImage(image(x), was) || cached(x) != 0 {
			t.Fatalf("%s: Write wrote", what)
		}
	})
	x := marked(t, measure(40, mirror(2), parity(3)))
	for _, away := range []bool{false, true} {
		x.Away = slices.Repeat([]bool{away}, 5)
		was := image(x)
		refused(func(p api.Place, s string) {
			if n, e := Write(x, p, s); n != 0 || e != api.ErrArg {
				t.Errorf("Write(%v) of %d bytes = %d, %d", p, len(s), n, e)
			}
		})
		if !sameImage(image(x), was) || cached(x) != 0 {
			t.Errorf("a refused Write wrote")
		}
	}
}

// Promise 8.2: Mend, by hand.
func TestMend(t *testing.T) {
	g := measure(40, mirror(2), parity(3))
	// Of the Mirror: its device 0's two sectors, then device 1's; of the Parity: the parity on 3, the data on 4 and 2.
	cases := []struct {
		group int
		l     []int
		gone  []int
		n     int
		want  []int // which columns are written
	}{
		{0, nil, nil, 0, nil},
		{0, []int{}, nil, 0, nil},
		{0, []int{0}, nil, 1, []int{0}},
		{0, []int{3}, nil, 1, []int{3}},
		{0, []int{3, 0, 2}, nil, 3, []int{0, 2, 3}},
		{0, []int{0, 1, 2, 3}, nil, 4, []int{0, 1, 2, 3}},
		{0, []int{1, 1}, nil, 2, []int{1}},
		{0, []int{1, 2, 1, 2, 1}, nil, 5, []int{1, 2}},
		{0, []int{-1}, nil, 0, nil},
		{0, []int{4}, nil, 0, nil},
		{0, []int{-1, 4, 1, 5, math.MinInt, math.MaxInt, 2, -4}, nil, 2, []int{1, 2}},
		{0, []int{0, 1, 2, 3}, []int{0}, 2, []int{2, 3}},
		{0, []int{0, 1, 0}, []int{0}, 0, nil},
		{0, []int{0, 1, 2, 3}, []int{0, 1}, 0, nil},
		{0, []int{0, 1, 2, 3}, []int{2, 3, 4}, 4, []int{0, 1, 2, 3}},
		{1, []int{0, 1, 2, 9}, nil, 3, []int{0, 1, 2}},
		{1, []int{0, 1, 2, 3}, []int{3, 4}, 1, []int{2}},
		{1, []int{2, 2, 1, 0}, []int{2}, 2, []int{0, 1}},
		{1, []int{2, 0}, []int{4}, 2, []int{0, 2}},
	}
	for _, c := range cases {
		b := block{g, place(c.group, 4), 2}
		for _, h := range harms() {
			x := marked(t, g)
			for _, d := range c.gone {
				h.do(x, d)
			}
			want := image(x)
			for _, k := range c.want {
				on := b.columns(t)[k]
				want[on.Dev][on.At] = b.encoded(t, fulls("ab"))[k]
			}
			if n := Mend(x, b.p, fulls("ab"), c.l); n != c.n || !sameImage(image(x), want) {
				t.Errorf("Mend of the group %d, of %v, %v %s = %d, want %d, %v", c.group, c.l, c.gone, h.name, n, c.n, c.want)
			}
		}
	}
}

// Promise 8.2: Mend, of all blocks: each column alone, all of them, and all with each device of the group away, lost or fused.
func TestMendAll(t *testing.T) {
	blocks(func(b block) {
		l, s := b.columns(t), text(b.p.At+2, b.size)
		texts := b.encoded(t, s)
		mends := func(x Devs, places []int, gone int) {
			want, taken := image(x), 0
			for _, k := range places {
				if k >= 0 && k < len(l) && l[k].Dev != gone {
					want[l[k].Dev][l[k].At] = texts[k]
					taken++
				}
			}
			if n := Mend(x, b.p, s, places); n != taken || !sameImage(image(x), want) {
				t.Fatalf("Mend of %v, of %v without device %d = %d, want %d", b, places, gone, n, taken)
			}
		}
		all := []int{-1, len(l)}
		for k := range l {
			mends(made(t, b.g, '.'), []int{k}, -1)
			all = append(all, k)
		}
		mends(made(t, b.g, '.'), all, -1)
		for _, d := range b.devices() {
			for _, h := range harms() {
				x := made(t, b.g, '.')
				h.do(x, d)
				mends(x, all, d)
			}
		}
	})
}

// Promise 8.2: Mend, each place in the list's order, one that stands there twice twice: till a fuse goes off, and of versions in a cache.
func TestMendInOrder(t *testing.T) {
	b := block{measure(24, mirror(2)), place(0, 3), 4}
	s := fulls("abcd")
	cases := []struct {
		l     []int
		fuse  int
		n     int
		wrote string // device 0's four sectors
	}{
		{[]int{3, 1, 0}, 0, 0, "...."},
		{[]int{3, 1, 0}, 1, 1, "...d"},
		{[]int{3, 1, 0}, 2, 2, ".b.d"},
		{[]int{3, 1, 0}, 3, 3, "ab.d"},
		{[]int{2, 2, 0}, 1, 1, "..c."},
		{[]int{2, 2, 0}, 2, 2, "..c."},
		{[]int{2, 2, 0}, 3, 3, "a.c."},
		// Those that there aren't don't count for a fuse, nor do another device's.
		{[]int{-1, 8, 5, 2, 6, 1}, 1, 3, "..c."},
	}
	for _, c := range cases {
		x := made(t, b.g, '.')
		x.L[0].Fuse(c.fuse)
		n := Mend(x, b.p, s, c.l)
		if got := strings.Join(image(x)[0][19:23], ""); n != c.n || got != fulls(c.wrote) {
			t.Errorf("Mend of %v with a fuse of %d = %d, want %d, %q", c.l, c.fuse, n, c.n, c.wrote)
		}
	}
	x := made(t, b.g, '.')
	x.L[0].Write(20, full('x'))
	if n := Mend(x, b.p, s, []int{1, 1}); n != 2 {
		t.Errorf("Mend = %d", n)
	}
	// Of three versions the number 4 keeps what stood on the medium; of two it would keep the first one.
	x.L[0].Crash([]int{4})
	if got, _ := x.L[0].Read(20); got != full('.') {
		t.Errorf("of three versions a crash by 4 leaves %q", got)
	}
}

// Promise 8.2: Mend, 0 of devices that aren't right, or if layer 7 has an error; nothing is written then.
func TestMendWrong(t *testing.T) {
	l := []int{0, 1, 2, 3, 4, 5}
	unlike(t, func(what string, x Devs) {
		was := image(x)
		for size := range 6 {
			if n := Mend(x, place(0, 0), text(1, size), l); n != 0 {
				t.Fatalf("%s: Mend(%v) = %d", what, x, n)
			}
		}
		if !sameImage(image(x), was) || cached(x) != 0 {
			t.Fatalf("%s: Mend wrote", what)
		}
	})
	x := marked(t, measure(40, mirror(2), parity(3)))
	was := image(x)
	refused(func(p api.Place, s string) {
		if n := Mend(x, p, s, l); n != 0 {
			t.Errorf("Mend(%v) of %d bytes = %d", p, len(s), n)
		}
	})
	if !sameImage(image(x), was) || cached(x) != 0 {
		t.Errorf("a refused Mend wrote")
	}
}

// Promise 8.2: Flush, with choices of devices away, lost or fused: the others are flushed, how many weren't, and ErrLost if none was.
func TestFlush(t *testing.T) {
	for _, g := range []api.Geom{measure(24, mirror(1)), measure(24, parity(3)), measure(24, mirror(8)), measure(24, mirror(2), parity(3), mirror(1)), measure(24, mirror(1), mirror(1))} {
		var every []int
		for d := range geom.Devs(g) {
			every = append(every, d)
		}
		for _, h := range harms() {
			choices(every, func(some []int) {
				x := made(t, g, '.')
				for d := range x.L {
					x.L[d].Write(d, full('f'))
				}
				want := image(x)
				for _, d := range some {
					h.do(x, d)
					want[d] = make([]string, g.Secs)
					if !x.L[d].Lost() {
						want[d] = slices.Repeat([]string{full('.')}, g.Secs)
					}
				}
				e := api.OK
				if len(some) == len(every) {
					e = api.ErrLost
				}
				if n, got := Flush(x); n != len(some) || got != e {
					t.Fatalf("Flush of %v, %v %s = %d, %d", g, some, h.name, n, got)
				}
				for d := range x.L {
					if gone := slices.Contains(some, d); !gone && len(x.L[d].Cached()) != 0 {
						t.Fatalf("Flush of %v, %v %s: device %d isn't flushed", g, some, h.name, d)
					}
				}
				// What wasn't flushed goes with a crash.
				crash(x, 0)
				if !sameImage(image(x), want) {
					t.Fatalf("Flush of %v, %v %s: a crash leaves other sectors", g, some, h.name)
				}
			})
		}
	}
}

// Promise 8.2: Flush, of devices away, lost and fused together; each device is flushed once.
func TestFlushMixed(t *testing.T) {
	x := made(t, measure(24, mirror(2), parity(3)), '.')
	x.Away[0] = true
	x.L[1].Lose()
	x.L[2].Fuse(0)
	x.L[3].Fuse(2)
	if n, e := Flush(x); n != 3 || e != api.OK {
		t.Errorf("Flush = %d, %d", n, e)
	}
	if n, e := Flush(x); n != 3 || e != api.OK {
		t.Errorf("Flush again = %d, %d", n, e)
	}
	if n, e := Flush(x); n != 4 || e != api.OK {
		t.Errorf("Flush behind the fuse = %d, %d", n, e)
	}
	x.L[4].Lose()
	if n, e := Flush(x); n != 5 || e != api.ErrLost {
		t.Errorf("Flush of none = %d, %d", n, e)
	}
	x.Away[0] = false
	if n, e := Flush(x); n != 4 || e != api.OK {
		t.Errorf("Flush of one = %d, %d", n, e)
	}
}

// Promise 8.2: Flush, ErrArg and 0 of devices that aren't right; nothing is flushed then.
func TestFlushWrong(t *testing.T) {
	unlike(t, func(what string, x Devs) {
		for _, d := range x.L {
			d.Write(0, full('x'))
		}
		was := cached(x)
		if n, e := Flush(x); n != 0 || e != api.ErrArg || cached(x) != was {
			t.Fatalf("%s: Flush(%v) = %d, %d", what, x, n, e)
		}
	})
}

// Promise 8.3: what was written is read raw as it is encoded, on each device that took it, whatever devices didn't; also once it is flushed, behind a crash, and where it was written over.
func TestWrittenIsRead(t *testing.T) {
	blocks(func(b block) {
		l := b.columns(t)
		first, second := text(b.p.At, b.size), text(b.p.At+50, b.size)
		old, fresh := b.encoded(t, first), b.encoded(t, second)
		for _, h := range harms() {
			choices(b.devices(), func(some []int) {
				x := made(t, b.g, '.')
				reads := func(when string, want []string) {
					t.Helper()
					if got, e := Raw(x, b.p, b.size); !slices.Equal(got, want) || e != api.OK {
						t.Fatalf("%v, %v %s, %s: %d, another answer", b, some, h.name, when, e)
					}
				}
				Write(x, b.p, first)
				reads("written", old)
				Flush(x)
				for _, d := range some {
					h.do(x, d)
				}
				want := slices.Clone(fresh)
				for k, c := range l {
					switch {
					case !slices.Contains(some, c.Dev):
					case h.here:
						want[k] = old[k]
					default:
						want[k] = ""
					}
				}
				Write(x, b.p, second)
				reads("written over", want)
				Flush(x)
				reads("flushed", want)
				crash(x, 0)
				reads("crashed", want)
			})
		}
	})
}

// Promise 8.3: what a device took before it was away is there, once it is here again, and what was written meanwhile isn't, till it is mended.
func TestHereAgain(t *testing.T) {
	blocks(func(b block) {
		l := b.columns(t)
		first, second := text(1, b.size), text(99, b.size)
		old, fresh := b.encoded(t, first), b.encoded(t, second)
		for _, d := range b.devices() {
			x := made(t, b.g, '.')
			Write(x, b.p, first)
			x.Away[d] = true
			Write(x, b.p, second)
			x.Away[d] = false
			want := slices.Clone(fresh)
			for k, c := range l {
				if c.Dev == d {
					want[k] = old[k]
				}
			}
			got, e := Raw(x, b.p, b.size)
			if !slices.Equal(got, want) || e != api.OK {
				t.Fatalf("%v, device %d here again: %d, another answer", b, d, e)
			}
			bad := code.Bad(b.g, b.p, second, got)
			if n := Mend(x, b.p, second, bad); n != len(bad) {
				t.Fatalf("%v, device %d here again: %d of %d mended", b, d, n, len(bad))
			}
			if got, e := Raw(x, b.p, b.size); !slices.Equal(got, fresh) || e != api.OK {
				t.Fatalf("%v, device %d mended: %d, another answer", b, d, e)
			}
		}
	})
}

// Promise 8.3: blocks side by side don't touch each other.
func TestSideBySide(t *testing.T) {
	for _, p := range groups() {
		g := measure(40, parity(4), p)
		for size := 1; size <= 4; size++ {
			x := made(t, g, '.')
			takes := geom.Takes(g, 1, size)
			var l []block
			for at := 0; at <= geom.Sectors(g, 1)-takes; at += takes {
				b := block{g, place(1, at), size}
				if n, e := Write(x, b.p, text(at*3, size)); n != 0 || e != api.OK {
					t.Fatalf("Write of %v = %d, %d", b, n, e)
				}
				l = append(l, b)
			}
			for _, b := range l {
				if got, e := Raw(x, b.p, size); e != api.OK || !slices.Equal(got, b.encoded(t, text(b.p.At*3, size))) {
					t.Fatalf("Raw of %v: %d, another answer", b, e)
				}
			}
			// Nothing stands ahead of what is given out, nor on other groups' devices.
			for d, sectors := range image(x) {
				for at, s := range sectors {
					if (at < 16 || d < 4) && s != full('.') {
						t.Fatalf("%v, blocks of %d: sector %d of device %d was written", g, size, at, d)
					}
				}
			}
		}
	}
}

// Rules 3, 4: what is handed in isn't changed, spare room included: but the devices, which are written.
func TestNothingIsChanged(t *testing.T) {
	x := made(t, measure(24, mirror(2), parity(3)), '.')
	groups := append(slices.Clone(x.G.Groups), mirror(9))
	devs := append(slices.Clone(x.L), nil)
	away := append(slices.Clone(x.Away), true)
	away[1] = true
	places := []int{0, 9, 1, 0, -1, 77}
	x = Devs{G: api.Geom{Groups: groups[:2], Secs: 24}, L: devs[:5], Away: away[:5]}
	g, l, a, p := slices.Clone(groups), slices.Clone(devs), slices.Clone(away), slices.Clone(places)
	Right(x)
	Here(x, 1)
	Raw(x, place(1, 0), 2)
	Write(x, place(0, 0), text(1, 4))
	Mend(x, place(1, 0), text(1, 2), places[:5])
	Flush(x)
	x.L[0].Lose()
	Write(x, place(0, 0), text(1, 4))
	Flush(x)
	if !slices.Equal(groups, g) || !slices.Equal(devs, l) || !slices.Equal(away, a) || !slices.Equal(places, p) {
		t.Errorf("what was handed in has become %v, %v, %v, %v", groups, devs, away, places)
	}
}

// Rule 6: the same devices, been through the same, answer the same, time and again.
func TestSameAnswers(t *testing.T) {
	run := func() ([][]string, []int) {
		x := made(t, measure(24, mirror(8), parity(8)), '.')
		var l []int
		for d := range x.L {
			x.L[d].Fuse(d % 5)
			x.Away[d] = d%7 == 3
		}
		for i := range 12 {
			n, e := Write(x, place(i%2, i/2), text(i, i%4+1))
			l = append(l, n, int(e), Mend(x, place(i%2, i/2), text(i, i%4+1), []int{i, 0, 1}))
			n, e = Flush(x)
			l = append(l, n, int(e))
		}
		return image(x), l
	}
	was, answers := run()
	for range 20 {
		if now, l := run(); !sameImage(now, was) || !slices.Equal(l, answers) {
			t.Fatalf("other answers: %v, %v", l, answers)
		}
	}
}
