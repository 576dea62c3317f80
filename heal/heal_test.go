package heal

import (
	"math"
	"slices"
	"testing"

	"polder/api"
	"polder/code"
	"polder/cols"
	"polder/dev"
	"polder/fletch"
	"polder/geom"
	"polder/vdev"
)

// mirror and parity answer a group of so many devices.
func mirror(wide int) api.Group { return api.Group{Kind: api.Mirror, Wide: wide} }
func parity(wide int) api.Group { return api.Group{Kind: api.Parity, Wide: wide} }

// measure answers a measure of these groups.
func measure(secs int, l ...api.Group) api.Geom { return api.Geom{Groups: l, Secs: secs} }

// place answers a place.
func place(group, at int) api.Place { return api.Place{Group: group, At: at} }

// text answers a block's text of so many sectors, no two bytes at the same place of two sectors alike.
func text(seed, size int) string {
	var b []byte
	for i := range size {
		for k := range 64 {
			b = append(b, byte(33+(seed+i*37+k*5+k*k)%89))
		}
	}
	return string(b)
}

// groups answers all groups that are right.
func groups() []api.Group {
	var l []api.Group
	for wide := 1; wide <= 8; wide++ {
		l = append(l, mirror(wide))
	}
	for wide := 3; wide <= 8; wide++ {
		l = append(l, parity(wide))
	}
	return l
}

// bed is a measure, a block's places in it, and how many sectors it has.
type bed struct {
	g      api.Geom
	places []api.Place
	size   int
}

// pointer answers the pointer at a bed's block of this text.
func pointer(b bed, s string) api.Ptr {
	p := api.Ptr{A: b.places[0], Size: b.size, Level: 1, Birth: 9, Sum: fletch.Sum(s)}
	if len(b.places) > 1 {
		p.B, p.Two = b.places[1], true
	}
	return p
}

// laid answers devices, each of which is full of a byte of its own, but for the bed's block; all is flushed.
func laid(t *testing.T, b bed) (vdev.Devs, api.Ptr, string) {
	t.Helper()
	x, e := vdev.New(b.g, 0)
	if e != api.OK {
		t.Fatalf("New(%v) = %d", b.g, e)
	}
	for i, d := range x.L {
		d.Fresh(byte(i*31 + 1))
	}
	s := text(3, b.size)
	for _, at := range b.places {
		put(t, x, at, s)
	}
	return x, pointer(b, s), s
}

// put writes a block at a place, and flushes.
func put(t *testing.T, x vdev.Devs, at api.Place, s string) {
	t.Helper()
	if n, e := vdev.Write(x, at, s); n != 0 || e != api.OK {
		t.Fatalf("Write(%v) = %d, %d", at, n, e)
	}
	if n, e := vdev.Flush(x); n != 0 || e != api.OK {
		t.Fatalf("Flush = %d, %d", n, e)
	}
}

// columns answers a block's columns at a bed's place.
func columns(t *testing.T, b bed, i int) []api.Col {
	t.Helper()
	l, e := cols.Of(b.g, b.places[i], b.size)
	if e != api.OK {
		t.Fatalf("%v: no columns", b)
	}
	return l
}

// image answers what each sector of each device reads as, whether it is away or not; nothing of a lost one.
func image(x vdev.Devs) [][]string {
	l := make([][]string, len(x.L))
	for i, d := range x.L {
		for at := range d.Secs() {
			s, _ := d.Read(at)
			l[i] = append(l[i], s)
		}
	}
	return l
}

// same tells whether two images are alike.
func same(a, b [][]string) bool {
	return slices.EqualFunc(a, b, func(v, w []string) bool { return slices.Equal(v, w) })
}

// spot is a column of a block at one of its places.
type spot struct{ place, col int }

// hurt is what befell a block: columns that were spoilt, devices that are lost, and such that are away.
type hurt struct {
	spoilt     []spot
	lost, away []int
}

// spoil spoils a block's columns, no two of them by the same byte at the same place.
func spoil(t *testing.T, b bed, x vdev.Devs, l []spot) {
	t.Helper()
	for k, v := range l {
		c := columns(t, b, v.place)[v.col]
		if !x.L[c.Dev].Spoil(c.At, k*3, byte(k*29+1)) {
			t.Fatalf("%v: %v isn't spoilt", b, v)
		}
	}
}

// befall lets all of it befall a block.
func befall(t *testing.T, b bed, x vdev.Devs, h hurt) {
	t.Helper()
	spoil(t, b, x, h.spoilt)
	for _, d := range h.lost {
		x.L[d].Lose()
	}
	for _, d := range h.away {
		x.Away[d] = true
	}
}

// missing tells whether a device can't be read.
func missing(h hurt, d int) bool { return slices.Contains(h.lost, d) || slices.Contains(h.away, d) }

// marks answers, of a block's columns at a place, which aren't right, and which of these can't be read.
func marks(l []api.Col, i int, h hurt) (wrong, gone []bool) {
	for k, c := range l {
		gone = append(gone, missing(h, c.Dev))
		wrong = append(wrong, gone[k] || slices.Contains(h.spoilt, spot{i, k}))
	}
	return wrong, gone
}

// byMirror answers the first device all of whose columns are right.
func byMirror(l []api.Col, wrong []bool) (int, bool) {
	for _, d := range cols.Devs(l) {
		right := true
		for k, c := range l {
			right = right && (c.Dev != d || !wrong[k])
		}
		if right {
			return d, true
		}
	}
	return 0, false
}

// byParity answers -1, if all data is right, or the first device of which all others' data is, and, in the rows where it has data, the parity.
func byParity(l []api.Col, wrong []bool) (int, bool) {
	devs := []int{-1}
	for _, d := range cols.Devs(l) {
		if slices.ContainsFunc(l, func(c api.Col) bool { return c.Dev == d && !c.Par }) {
			devs = append(devs, d)
		}
	}
	for _, d := range devs {
		asked := map[int]bool{}
		for _, c := range l {
			asked[c.Row] = asked[c.Row] || c.Dev == d && !c.Par
		}
		right := true
		for k, c := range l {
			if c.Par && asked[c.Row] || !c.Par && c.Dev != d {
				right = right && !wrong[k]
			}
		}
		if right {
			return d, true
		}
	}
	return 0, false
}

// fore is what is to come of a block: what Look answers, which columns Read is to write, and which Scrub is to.
type fore struct {
	came        Came
	e           api.Errno
	read, scrub []spot
	whole       bool
}

// foretold answers what is to come of a block that all of this befell.
func foretold(t *testing.T, b bed, s string, h hurt) fore {
	t.Helper()
	f := fore{e: api.ErrSum, whole: true}
	mendable := make([][]spot, len(b.places))
	for i := range b.places {
		l := columns(t, b, i)
		wrong, gone := marks(l, i, h)
		f.whole = f.whole && !slices.Contains(wrong, true)
		for k := range l {
			if wrong[k] && !gone[k] {
				mendable[i] = append(mendable[i], spot{i, k})
			}
		}
		d, ok := byParity(l, wrong)
		if b.g.Groups[b.places[i].Group].Kind == api.Mirror {
			d, ok = byMirror(l, wrong)
		}
		if f.e == api.OK {
			continue
		}
		if ok {
			f.came, f.e = Came{Text: s, Place: i, Dev: d}, api.OK
		} else if slices.Contains(gone, true) {
			f.e = api.ErrLost
		}
	}
	if f.e != api.OK {
		return fore{e: f.e}
	}
	f.read = slices.Concat(mendable[:f.came.Place+1]...)
	f.scrub = slices.Concat(mendable...)
	return f
}

// mended answers an image with these columns as they are to be.
func mended(t *testing.T, b bed, l [][]string, s string, spots []spot) [][]string {
	t.Helper()
	for _, v := range spots {
		texts, _ := code.Encode(b.g, b.places[v.place], s)
		c := columns(t, b, v.place)[v.col]
		l[c.Dev][c.At] = texts[v.col]
	}
	return l
}

// call is one of Look, Read and Scrub.
type call = func(vdev.Devs, api.Ptr) (Came, api.Errno)

// held holds one call against what is to come: its answer, which sectors were written, what the devices have.
func held(t *testing.T, name string, f call, b bed, h hurt, want Came, e api.Errno, fixed []spot) vdev.Devs {
	t.Helper()
	x, p, s := laid(t, b)
	befall(t, b, x, h)
	be := image(x)
	away := slices.Clone(x.Away)
	want.Fixed = len(fixed)
	if c, got := f(x, p); c != want || got != e {
		t.Fatalf("%s of %v behind %v = %v, %d; not %v, %d", name, b, h, c, got, want, e)
	}
	if !same(image(x), mended(t, b, be, s, fixed)) || !slices.Equal(away, x.Away) {
		t.Fatalf("%s of %v behind %v: the devices aren't as they are to be", name, b, h)
	}
	written := make([][]int, len(x.L))
	for _, v := range fixed {
		c := columns(t, b, v.place)[v.col]
		written[c.Dev] = append(written[c.Dev], c.At)
	}
	for i, d := range x.L {
		slices.Sort(written[i])
		if l := d.Cached(); !slices.Equal(l, written[i]) {
			t.Fatalf("%s of %v behind %v: device %d: sectors %v were written, not %v", name, b, h, i, l, written[i])
		}
	}
	return x
}

// tried holds all calls against what is to come of a block that all of this befell.
func tried(t *testing.T, b bed, h hurt) fore {
	t.Helper()
	s := text(3, b.size)
	p := pointer(b, s)
	f := foretold(t, b, s, h)

	x := held(t, "Look", Look, b, h, f.came, f.e, nil)
	if Whole(x, p) != f.whole {
		t.Fatalf("Whole of %v behind %v = %v", b, h, !f.whole)
	}

	x = held(t, "Read", Read, b, h, f.came, f.e, f.read)
	c, e := Look(x, p)
	if again, e2 := Read(x, p); again != c || e2 != e || e != f.e || c.Text != f.came.Text {
		t.Fatalf("Read of %v, again, behind %v = %v, %d, but Look = %v, %d", b, h, again, e2, c, e)
	}

	x = held(t, "Scrub", Scrub, b, h, f.came, f.e, f.scrub)
	if whole := f.e == api.OK && len(h.lost)+len(h.away) == 0; whole && !Whole(x, p) {
		t.Fatalf("Scrub of %v behind %v: it isn't whole", b, h)
	}
	c, e = Look(x, p)
	if again, e2 := Scrub(x, p); again != c || e2 != e || e != f.e || c.Text != f.came.Text {
		t.Fatalf("Scrub of %v, again, behind %v = %v, %d, but Look = %v, %d", b, h, again, e2, c, e)
	}
	return f
}

// beds answers beds of each right group, of each size, with one place and with two, in the same group and in another one.
func beds() []bed {
	var l []bed
	for _, q := range groups() {
		g := measure(25, mirror(2), q, parity(3))
		for size := 1; size <= 4; size++ {
			a, b := place(1, 1), place(1, 1+geom.Takes(g, 1, size))
			l = append(l,
				bed{g, []api.Place{a}, size},
				bed{g, []api.Place{a, b}, size},
				bed{g, []api.Place{b, a}, size},
				bed{g, []api.Place{a, place(2, 5)}, size},
				bed{g, []api.Place{place(0, 5), b}, size})
		}
	}
	return l
}

// few answers beds of the narrowest and the widest groups, of the least and the greatest size.
func few() []bed {
	return slices.DeleteFunc(beds(), func(b bed) bool {
		q := b.g.Groups[1]
		narrow := q.Wide == 1 || q.Wide == 2 || q.Kind == api.Parity && q.Wide == 3
		return b.size != 1 && b.size != 4 || !narrow && q.Wide != 8
	})
}

// spots answers all columns of a block at a bed's places of which is is true.
func spots(t *testing.T, b bed, is func(i, k int, c api.Col) bool) []spot {
	t.Helper()
	var l []spot
	for i := range b.places {
		for k, c := range columns(t, b, i) {
			if is(i, k, c) {
				l = append(l, spot{i, k})
			}
		}
	}
	return l
}

// every is all columns.
func every(int, int, api.Col) bool { return true }

// devices answers the devices that a block has columns on.
func devices(t *testing.T, b bed) []int {
	t.Helper()
	var l []int
	for i := range b.places {
		l = append(l, cols.Devs(columns(t, b, i))...)
	}
	slices.Sort(l)
	return slices.Compact(l)
}

// of answers all columns that these devices have.
func of(t *testing.T, b bed, devs ...int) []spot {
	t.Helper()
	return spots(t, b, func(_, _ int, c api.Col) bool { return slices.Contains(devs, c.Dev) })
}

// wants holds what was foretold against what the document says plainly, so that no fault of the foretelling hides one of the calls.
func wants(t *testing.T, b bed, h hurt, f fore, e api.Errno) {
	t.Helper()
	if f.e != e {
		t.Fatalf("%v behind %v: foretold is %d, not %d", b, h, f.e, e)
	}
}

// Promise 10.1, 10.2, 10.3: no column is spoilt: it is read at A, nothing is written, it is whole.
func TestNothingBefell(t *testing.T) {
	for _, b := range beds() {
		f := tried(t, b, hurt{})
		first := geom.First(b.g, b.places[0].Group)
		if b.g.Groups[b.places[0].Group].Kind == api.Parity {
			first = -1
		}
		if want := (Came{Text: text(3, b.size), Dev: first}); f.came != want || !f.whole || len(f.scrub) != 0 {
			t.Errorf("%v: foretold is %v, not %v", b, f, want)
		}
	}
}

// Promise 10.1, 10.2, 10.3: each one column spoilt in turn.
func TestOneColumn(t *testing.T) {
	for _, b := range beds() {
		for _, v := range spots(t, b, every) {
			h := hurt{spoilt: []spot{v}}
			f := tried(t, b, h)
			e := api.OK
			if len(b.places) == 1 && b.g.Groups[1] == mirror(1) {
				e = api.ErrSum
			}
			wants(t, b, h, f, e)
		}
	}
}

// Promise 10.1, 10.2, 10.3: each two columns spoilt.
func TestTwoColumns(t *testing.T) {
	for _, b := range few() {
		l := spots(t, b, every)
		for i, v := range l {
			for _, w := range l[i+1:] {
				// All pairs of a wide Mirror with two places are many, and much alike.
				if len(l) < 20 || (v.col+w.col)%5 == 0 {
					tried(t, b, hurt{spoilt: []spot{v, w}})
				}
			}
		}
	}
}

// Promise 10.1, 10.2, 10.3: all columns of each one device spoilt in turn, and all of each two devices.
func TestDevicesSpoilt(t *testing.T) {
	for _, b := range beds() {
		l := devices(t, b)
		for i, d := range l {
			h := hurt{spoilt: of(t, b, d)}
			f := tried(t, b, h)
			e := api.OK
			if q := b.g.Groups[1]; q == mirror(1) && b.places[0].Group == 1 && b.places[len(b.places)-1].Group == 1 {
				e = api.ErrSum
			}
			wants(t, b, h, f, e)
			for _, d2 := range l[i+1:] {
				if len(l) < 4 || (d+d2)%3 == 0 {
					tried(t, b, hurt{spoilt: of(t, b, d, d2)})
				}
			}
		}
	}
}

// Promise 10.1, 10.3: of a Parity two devices' columns spoilt: nothing is read, where both have a row's columns.
func TestTwoOfAParity(t *testing.T) {
	for wide := 3; wide <= 8; wide++ {
		for size := 2; size <= 4; size++ {
			b := bed{measure(40, parity(wide)), []api.Place{place(0, 11)}, size}
			row := columns(t, b, 0)[:min(size+1, wide)]
			for i, c := range row {
				for _, c2 := range row[i+1:] {
					h := hurt{spoilt: of(t, b, c.Dev, c2.Dev)}
					wants(t, b, h, tried(t, b, h), api.ErrSum)
				}
			}
		}
	}
}

// Promise 10.3: of a Mirror all but one device's columns spoilt, each one in turn being that: it is read, and behind a Scrub it is whole; all of them spoilt: ErrSum.
func TestAllButOneOfAMirror(t *testing.T) {
	for wide := 1; wide <= 8; wide++ {
		for size := 1; size <= 4; size++ {
			b := bed{measure(40, parity(3), mirror(wide)), []api.Place{place(1, 9)}, size}
			all := hurt{spoilt: spots(t, b, every)}
			wants(t, b, all, tried(t, b, all), api.ErrSum)
			for d := range wide {
				h := hurt{spoilt: spots(t, b, func(_, _ int, c api.Col) bool { return c.Dev != 3+d })}
				f := tried(t, b, h)
				wants(t, b, h, f, api.OK)
				if f.came.Dev != 3+d || len(f.read) != (wide-1)*size {
					t.Errorf("%v behind %v: foretold is %v", b, h, f)
				}
			}
			// One column of each device is as bad as all of them.
			h := hurt{spoilt: spots(t, b, func(_, k int, c api.Col) bool { return k%size == (c.Dev*3+1)%size })}
			wants(t, b, h, tried(t, b, h), api.ErrSum)
		}
	}
}

// Promise 10.1, 10.2, 10.3: each device lost, and each away, in turn, those without columns of it, too; and one beside another one that is spoilt.
func TestDevicesGone(t *testing.T) {
	for _, b := range few() {
		for d := range geom.Devs(b.g) {
			lost := tried(t, b, hurt{lost: []int{d}})
			away := tried(t, b, hurt{away: []int{d}})
			if lost.e != away.e || lost.came != away.came {
				t.Errorf("%v: lost: %v, away: %v", b, lost, away)
			}
			e := api.OK
			if q := b.g.Groups[1]; q == mirror(1) && b.places[0].Group == 1 && b.places[len(b.places)-1].Group == 1 && d == 2 {
				e = api.ErrLost
			}
			wants(t, b, hurt{lost: []int{d}}, lost, e)
			for d2 := range geom.Devs(b.g) {
				// One in five of a wide group's pairs.
				if d2 == d || geom.Devs(b.g) > 8 && (d+2*d2)%5 != 0 {
					continue
				}
				tried(t, b, hurt{lost: []int{d}, spoilt: of(t, b, d2)})
				tried(t, b, hurt{away: []int{d}, spoilt: of(t, b, d2)})
				tried(t, b, hurt{away: []int{d}, lost: []int{d2}})
			}
		}
	}
}

// Promise 10.1, 10.2: with two places: all columns at A spoilt, all at B, and all at both; and all of one place beside each column of the other.
func TestTwoPlaces(t *testing.T) {
	for _, b := range beds() {
		if len(b.places) == 1 {
			continue
		}
		at := func(place int) []spot {
			return spots(t, b, func(i, _ int, _ api.Col) bool { return i == place })
		}
		h := hurt{spoilt: at(0)}
		f := tried(t, b, h)
		wants(t, b, h, f, api.OK)
		if f.came.Place != 1 || len(f.read) != len(at(0)) || len(f.scrub) != len(at(0)) {
			t.Errorf("%v behind %v: foretold is %v", b, h, f)
		}
		h = hurt{spoilt: at(1)}
		f = tried(t, b, h)
		wants(t, b, h, f, api.OK)
		if f.came.Place != 0 || len(f.read) != 0 || len(f.scrub) != len(at(1)) {
			t.Errorf("%v behind %v: foretold is %v", b, h, f)
		}
		h = hurt{spoilt: spots(t, b, every)}
		wants(t, b, h, tried(t, b, h), api.ErrSum)
		for i := range 2 {
			for k, v := range at(1 - i) {
				// One in three of a great block's columns.
				if k < 6 || k%3 == 0 {
					tried(t, b, hurt{spoilt: append(at(i), v)})
				}
			}
		}
	}
}

// Promise 10.2: read at B, some columns at A are right, and aren't written; or none of them is spoilt, but they can't be read.
func TestReadAtB(t *testing.T) {
	b := bed{measure(40, mirror(2), parity(3)), []api.Place{place(1, 4), place(0, 3)}, 4}
	h := hurt{spoilt: []spot{{0, 1}, {0, 2}, {1, 2}}}
	f := tried(t, b, h)
	if f.came.Place != 1 || f.came.Dev != 1 || len(f.read) != 3 {
		t.Errorf("%v behind %v: foretold is %v", b, h, f)
	}
	for _, h := range []hurt{{lost: []int{2, 4}}, {away: []int{2, 4}}, {lost: []int{3}, away: []int{2}}, {away: []int{2, 3, 4}}} {
		f := tried(t, b, h)
		if f.came.Place != 1 || f.came.Dev != 0 || len(f.scrub) != 0 || f.whole {
			t.Errorf("%v behind %v: foretold is %v", b, h, f)
		}
		// What comes back is as it was: nothing was to be mended.
		x, p, _ := laid(t, b)
		if len(h.lost) > 0 {
			continue
		}
		befall(t, b, x, h)
		Scrub(x, p)
		clear(x.Away)
		if c, e := Scrub(x, p); e != api.OK || c.Place != 0 || c.Fixed != 0 || !Whole(x, p) {
			t.Errorf("%v behind %v, back again: %v, %d", b, h, c, e)
		}
	}
}

// Promise 10.2: a device that missed a write, and one that took another one's place, have all of their columns mended by a Scrub.
func TestStaleAndFresh(t *testing.T) {
	for _, b := range beds() {
		s := text(3, b.size)
		p := pointer(b, s)
		for _, d := range devices(t, b) {
			x, e := vdev.New(b.g, 'n')
			if e != api.OK {
				t.Fatalf("New(%v) = %d", b.g, e)
			}
			x.Away[d] = true
			for _, at := range b.places {
				vdev.Write(x, at, s)
			}
			x.Away[d] = false
			alone := b.g.Groups[1] == mirror(1) && d == 2 && b.places[0].Group == 1 && b.places[len(b.places)-1].Group == 1
			n := len(of(t, b, d))
			c, e := Scrub(x, p)
			if alone {
				if e != api.ErrSum || Whole(x, p) {
					t.Errorf("%v: device %d stale: Scrub = %v, %d", b, d, c, e)
				}
				continue
			}
			if e != api.OK || c.Text != s || c.Fixed != n || !Whole(x, p) {
				t.Errorf("%v: device %d stale: Scrub = %v, %d", b, d, c, e)
			}
			x.L[d].Lose()
			if Whole(x, p) {
				t.Errorf("%v: device %d lost: it is whole", b, d)
			}
			x.L[d].Fresh('f')
			if c, e := Scrub(x, p); e != api.OK || c.Text != s || c.Fixed != n || !Whole(x, p) {
				t.Errorf("%v: device %d fresh: Scrub = %v, %d", b, d, c, e)
			}
		}
	}
}

// Promise 10.1, 10.2: the chapter's example, with a Look before and behind, and Read twice.
func TestExample(t *testing.T) {
	b := bed{measure(40, mirror(2)), []api.Place{place(0, 0)}, 1}
	x, p, s := laid(t, b)
	x.L[0].Spoil(16, 5, 1)
	if c, e := Look(x, p); e != api.OK || c != (Came{Text: s, Dev: 1}) || Whole(x, p) {
		t.Errorf("Look = %v, %d", c, e)
	}
	if l := x.L[0].Cached(); len(l) != 0 {
		t.Errorf("Look wrote %v", l)
	}
	if c, e := Read(x, p); e != api.OK || c != (Came{Text: s, Dev: 1, Fixed: 1}) || !Whole(x, p) {
		t.Errorf("Read = %v, %d", c, e)
	}
	if c, e := Read(x, p); e != api.OK || c != (Came{Text: s}) {
		t.Errorf("Read, again = %v, %d", c, e)
	}
	if c, e := Look(x, p); e != api.OK || c != (Came{Text: s}) {
		t.Errorf("Look, behind it = %v, %d", c, e)
	}
	if c, e := Scrub(x, p); e != api.OK || c != (Came{Text: s}) {
		t.Errorf("Scrub, behind it = %v, %d", c, e)
	}
}

// Promise 10.2: what is mended stands in the caches: a crash ahead of a flush takes it away again, behind one it stays.
func TestMendedIsCached(t *testing.T) {
	b := bed{measure(40, mirror(2)), []api.Place{place(0, 2)}, 2}
	x, p, s := laid(t, b)
	x.L[0].Spoil(18, 5, 1)
	for range 2 {
		if c, e := Read(x, p); e != api.OK || c != (Came{Text: s, Dev: 1, Fixed: 1}) || !Whole(x, p) {
			t.Errorf("Read = %v, %d", c, e)
		}
		x.L[0].Crash(nil)
		if Whole(x, p) {
			t.Errorf("whole behind a crash")
		}
	}
	Read(x, p)
	vdev.Flush(x)
	x.L[0].Crash(nil)
	if !Whole(x, p) {
		t.Errorf("not whole behind a flush")
	}
}

// Promise 10.2: a device whose fuse goes off while columns are mended takes no more of them; the next call goes on.
func TestFuse(t *testing.T) {
	for _, f := range []call{Read, Scrub} {
		for n := -1; n <= 5; n++ {
			b := bed{measure(40, parity(3), mirror(3)), []api.Place{place(1, 6)}, 4}
			x, p, s := laid(t, b)
			h := hurt{spoilt: append(of(t, b, 3), spot{0, 9})}
			befall(t, b, x, h)
			be := image(x)
			x.L[3].Fuse(n)
			took := min(max(n, 0), 4)
			c, e := f(x, p)
			if e != api.OK || c != (Came{Text: s, Dev: 4, Fixed: took + 1}) || Whole(x, p) != (took == 4) {
				t.Errorf("fuse %d: %v, %d", n, c, e)
			}
			if !same(image(x), mended(t, b, be, s, append(slices.Clone(h.spoilt[:took]), spot{0, 9}))) {
				t.Errorf("fuse %d: the devices aren't as they are to be", n)
			}
			if c, e := f(x, p); e != api.OK || c.Text != s || c.Fixed != 0 {
				t.Errorf("fuse %d, again: %v, %d", n, c, e)
			}
			x.L[3].Crash([]int{1, 1, 1, 1})
			if c, e := f(x, p); e != api.OK || c.Text != s || c.Fixed != 4-took || !Whole(x, p) {
				t.Errorf("fuse %d, gone: %v, %d", n, c, e)
			}
		}
	}
}

// Promise 10.2: read at B, its columns are written ahead of those at A, where a fuse lets only one be taken.
func TestFuseAtB(t *testing.T) {
	for _, f := range []call{Read, Scrub} {
		b := bed{measure(40, mirror(2)), []api.Place{place(0, 6), place(0, 1)}, 1}
		x, p, s := laid(t, b)
		befall(t, b, x, hurt{spoilt: []spot{{0, 0}, {0, 1}, {1, 0}}})
		be := image(x)
		x.L[0].Fuse(1)
		if c, e := f(x, p); e != api.OK || c != (Came{Text: s, Place: 1, Dev: 1, Fixed: 2}) || Whole(x, p) {
			t.Errorf("fuse at B: %v, %d", c, e)
		}
		if !same(image(x), mended(t, b, be, s, []spot{{1, 0}, {0, 1}})) {
			t.Errorf("fuse at B: the devices aren't as they are to be")
		}
	}
}

// Promise 10.2: beside a device that is lost, only the others' columns are taken.
func TestLostBesideSpoilt(t *testing.T) {
	b := bed{measure(40, mirror(3)), []api.Place{place(0, 0)}, 4}
	h := hurt{spoilt: []spot{{0, 0}, {0, 3}, {0, 9}}, lost: []int{2}}
	f := tried(t, b, h)
	if f.came.Dev != 1 || len(f.read) != 2 || len(f.scrub) != 2 {
		t.Errorf("%v behind %v: foretold is %v", b, h, f)
	}
	b = bed{measure(40, parity(4)), []api.Place{place(0, 0)}, 3}
	h = hurt{spoilt: []spot{{0, 0}}, away: []int{2}}
	wants(t, b, h, tried(t, b, h), api.ErrLost)
	b = bed{measure(40, parity(4)), []api.Place{place(0, 0), place(0, 4)}, 3}
	h = hurt{spoilt: []spot{{0, 0}}, away: []int{2}}
	f = tried(t, b, h)
	if f.e != api.OK || f.came.Place != 1 || f.came.Dev != 2 || len(f.read) != 1 {
		t.Errorf("%v behind %v: foretold is %v", b, h, f)
	}
}

// Promise 10.3: another block beside it stays as it was, spoilt or not.
func TestAnotherBlock(t *testing.T) {
	for _, q := range groups() {
		g := measure(40, q)
		takes := geom.Takes(g, 0, 3)
		b := bed{g, []api.Place{place(0, takes)}, 3}
		x, p, s := laid(t, b)
		other, p2 := text(77, 3), p
		p2.A, p2.B, p2.Two, p2.Sum = place(0, 0), place(0, 2*takes), true, fletch.Sum(other)
		put(t, x, p2.A, other)
		put(t, x, p2.B, other)
		h := hurt{spoilt: of(t, b, columns(t, b, 0)[1].Dev)}
		if q == mirror(1) {
			h = hurt{}
		}
		befall(t, b, x, h)
		if c, e := Scrub(x, p); e != api.OK || c.Text != s || c.Fixed != len(h.spoilt) || !Whole(x, p) || !Whole(x, p2) {
			t.Errorf("%v: Scrub = %v, %d", b, c, e)
		}
		if c, e := Look(x, p2); e != api.OK || c.Text != other {
			t.Errorf("%v: the other one: %v, %d", b, c, e)
		}
		beside := bed{g, []api.Place{p2.A, p2.B}, 3}
		spoil(t, beside, x, []spot{{1, 0}})
		if c, e := Scrub(x, p); e != api.OK || c.Fixed != 0 || Whole(x, p2) {
			t.Errorf("%v: beside a spoilt one: Scrub = %v, %d", b, c, e)
		}
		if c, e := Scrub(x, p2); e != api.OK || c.Text != other || c.Fixed != 1 || !Whole(x, p2) {
			t.Errorf("%v: the other one: Scrub = %v, %d", b, c, e)
		}
	}
}

// words answers a text of 16 words, all of them 10 but for the first ones, which are so much more.
func words(more ...int) string {
	b := make([]byte, 64)
	for i := range 16 {
		b[4*i] = 10
		if i < len(more) {
			b[4*i] = byte(10 + more[i])
		}
	}
	return string(b)
}

// Promise 10.1, 10.2: of unlike texts with the pointer's sum the first try is the block: of devices in order, of A ahead of B, as read ahead of made again; by it the others are mended.
func TestFirstTry(t *testing.T) {
	s, s2 := words(), words(1, -4, 6, -4, 1)
	if s == s2 || fletch.Sum(s) != fletch.Sum(s2) {
		t.Fatalf("no two texts of the same sum")
	}
	b := bed{measure(40, mirror(2), parity(3)), []api.Place{place(0, 3), place(1, 2)}, 1}
	p := pointer(b, s)
	for _, swap := range []bool{false, true} {
		first, last := s, s2
		if swap {
			first, last = s2, s
		}
		x, _ := vdev.New(b.g, 0)
		x.L[0].Write(19, first)
		x.L[1].Write(19, last)
		vdev.Write(x, p.B, last)
		if c, e := Look(x, p); e != api.OK || c != (Came{Text: first}) || Whole(x, p) {
			t.Errorf("Look = %v, %d", c, e)
		}
		if c, e := Read(x, p); e != api.OK || c != (Came{Text: first, Fixed: 1}) || Whole(x, p) {
			t.Errorf("Read = %v, %d", c, e)
		}
		// Of a block of one sector the parity is the sector, so that both of B's columns are other ones.
		if c, e := Scrub(x, p); e != api.OK || c != (Came{Text: first, Fixed: 2}) || !Whole(x, p) {
			t.Errorf("Scrub = %v, %d", c, e)
		}

		x, _ = vdev.New(b.g, 0)
		q := p
		q.A, q.B, q.Two = place(1, 2), api.Place{}, false
		x.L[4].Write(16, last) // the parity
		x.L[2].Write(17, first)
		if c, e := Look(x, q); e != api.OK || c != (Came{Text: first, Dev: -1}) || Whole(x, q) {
			t.Errorf("Look = %v, %d", c, e)
		}
		if c, e := Read(x, q); e != api.OK || c != (Came{Text: first, Dev: -1, Fixed: 1}) || !Whole(x, q) {
			t.Errorf("Read = %v, %d", c, e)
		}
	}
}

// Promise 10.1: the example of the whole: a block whose two places are spoilt, all of both: ErrSum, and never other bytes.
func TestAllOfBoth(t *testing.T) {
	b := bed{measure(40, mirror(2), parity(3)), []api.Place{place(0, 0), place(1, 0)}, 2}
	h := hurt{spoilt: spots(t, b, every)}
	wants(t, b, h, tried(t, b, h), api.ErrSum)
}

// refused holds all calls against an error: nothing is answered beside it, nothing is written.
func refused(t *testing.T, x vdev.Devs, p api.Ptr, e api.Errno) {
	t.Helper()
	be := image(x)
	for i, f := range []call{Look, Read, Scrub} {
		if c, got := f(x, p); c != (Came{}) || got != e {
			t.Fatalf("call %d of %v = %v, %d; not %d", i, p, c, got, e)
		}
	}
	if Whole(x, p) {
		t.Fatalf("%v is whole", p)
	}
	if !same(be, image(x)) {
		t.Fatalf("%v: something was written", p)
	}
	for i, d := range x.L {
		if l := d.Cached(); len(l) > 0 {
			t.Fatalf("%v: device %d: sectors %v were written", p, i, l)
		}
	}
}

// Promise 10.1: a sum that is another one: ErrSum, with all devices here; ErrLost, with one that has a column lost or away, at whichever place, even though it isn't needed; without one: ErrSum.
func TestOtherSum(t *testing.T) {
	for i, b := range beds() {
		with := devices(t, b)
		other := func() (vdev.Devs, api.Ptr) {
			x, p, _ := laid(t, b)
			p.Sum[i%4]++
			return x, p
		}
		x, p := other()
		refused(t, x, p, api.ErrSum)
		for d := range x.L {
			e := api.ErrSum
			if slices.Contains(with, d) {
				e = api.ErrLost
			}
			x, p := other()
			x.Away[d] = true
			refused(t, x, p, e)
			x.Away[d] = false
			x.L[d].Lose()
			refused(t, x, p, e)
		}
	}
}

// Promise 10.1: devices that aren't right.
func TestWrongDevices(t *testing.T) {
	b := bed{measure(40, mirror(2), parity(3)), []api.Place{place(0, 3), place(1, 2)}, 2}
	right, p, _ := laid(t, b)
	short, _ := dev.New(39)
	long, _ := dev.New(41)
	with := func(d *dev.Dev) []*dev.Dev { return append(slices.Clone(right.L[:4]), d) }
	more, _ := dev.New(40)
	l := []vdev.Devs{
		{},
		{G: right.G},
		{G: right.G, L: right.L},
		{G: right.G, Away: right.Away},
		{L: right.L, Away: right.Away},
		{G: right.G, L: right.L[:4], Away: right.Away},
		{G: right.G, L: right.L, Away: right.Away[:4]},
		{G: right.G, L: right.L[:4], Away: right.Away[:4]},
		{G: right.G, L: append(slices.Clone(right.L), more), Away: right.Away},
		{G: right.G, L: append(slices.Clone(right.L), more), Away: make([]bool, 6)},
		{G: right.G, L: right.L, Away: make([]bool, 6)},
		{G: right.G, L: with(nil), Away: right.Away},
		{G: right.G, L: with(short), Away: right.Away},
		{G: right.G, L: with(long), Away: right.Away},
		{G: right.G, L: make([]*dev.Dev, 5), Away: right.Away},
	}
	wrong := []api.Geom{
		{},
		{Secs: 40},
		measure(40, mirror(2), parity(2)),
		measure(40, mirror(0), parity(5)),
		measure(40, mirror(-3), parity(8)),
		measure(40, mirror(9)),
		measure(40, mirror(2), api.Group{Kind: 2, Wide: 3}),
		measure(40, mirror(1), mirror(1), mirror(1), mirror(1), mirror(1)),
		measure(39, mirror(2), parity(3)),
		measure(41, mirror(2), parity(3)),
		measure(23, mirror(2), parity(3)),
		measure(0, mirror(2), parity(3)),
		measure(-40, mirror(2), parity(3)),
		measure(4097, mirror(2), parity(3)),
		measure(math.MaxInt, mirror(2), parity(3)),
		measure(math.MinInt, mirror(2), parity(3)),
		measure(40, mirror(math.MaxInt), parity(3)),
	}
	for _, g := range wrong {
		l = append(l, vdev.Devs{G: g, L: right.L, Away: right.Away})
	}
	for _, x := range l {
		refused(t, x, p, api.ErrArg)
		refused(t, x, api.Ptr{}, api.ErrArg)
	}
	if !Whole(right, p) {
		t.Errorf("%v isn't whole", p)
	}
}

// Promise 10.1: pointers that aren't right, though the block and its sum are; ErrArg goes ahead of ErrLost.
func TestWrongPointers(t *testing.T) {
	b := bed{measure(40, mirror(2), parity(3)), []api.Place{place(1, 6), place(0, 3)}, 2}
	l := []func(*api.Ptr){
		func(p *api.Ptr) { *p = api.Ptr{} },
		func(p *api.Ptr) { p.Size = 0 },
		func(p *api.Ptr) { p.Size = -1 },
		func(p *api.Ptr) { p.Size = 5 },
		func(p *api.Ptr) { p.Size = math.MaxInt },
		func(p *api.Ptr) { p.Size = math.MinInt },
		func(p *api.Ptr) { p.Level = -1 },
		func(p *api.Ptr) { p.Level = 4 },
		func(p *api.Ptr) { p.Level = math.MaxInt },
		func(p *api.Ptr) { p.Level = math.MinInt },
		func(p *api.Ptr) { p.Birth = 0 },
		func(p *api.Ptr) { p.Birth = -1 },
		func(p *api.Ptr) { p.Birth = 1 << 32 },
		func(p *api.Ptr) { p.Birth = math.MaxInt },
		func(p *api.Ptr) { p.A.Group = 2 },
		func(p *api.Ptr) { p.A.Group = -1 },
		func(p *api.Ptr) { p.A.Group = math.MaxInt },
		func(p *api.Ptr) { p.A.At = -1 },
		func(p *api.Ptr) { p.A.At = 69 },
		func(p *api.Ptr) { p.A.At = math.MaxInt },
		func(p *api.Ptr) { p.A.At = math.MinInt },
		func(p *api.Ptr) { p.B.Group = 2 },
		func(p *api.Ptr) { p.B.Group = -1 },
		func(p *api.Ptr) { p.B.At = -1 },
		func(p *api.Ptr) { p.B.At = 23 },
		func(p *api.Ptr) { p.B.At = math.MaxInt },
		func(p *api.Ptr) { p.Two = false },
		func(p *api.Ptr) { p.B = p.A },
		func(p *api.Ptr) { p.B = place(1, 3) },
		func(p *api.Ptr) { p.B = place(1, 9) },
	}
	for _, change := range l {
		x, p, _ := laid(t, b)
		if !Whole(x, p) {
			t.Fatalf("%v isn't whole", p)
		}
		change(&p)
		refused(t, x, p, api.ErrArg)
		x.L[0].Lose()
		x.Away[3] = true
		refused(t, x, p, api.ErrArg)
	}
}

// Promise 10.1: pointers that are only just right.
func TestEdgesOfPointers(t *testing.T) {
	b := bed{measure(24, mirror(2), parity(3)), []api.Place{place(1, 0), place(0, 4)}, 4}
	for _, at := range []int{0, 18} {
		for _, at2 := range []int{0, 4} {
			for level := range 4 {
				for _, birth := range []int{1, 1<<32 - 1} {
					b.places = []api.Place{place(1, at), place(0, at2)}
					x, p, s := laid(t, b)
					p.Level, p.Birth = level, birth
					spoil(t, b, x, []spot{{0, 1}, {1, 3}})
					if c, e := Scrub(x, p); e != api.OK || c.Text != s || c.Fixed != 2 || !Whole(x, p) {
						t.Errorf("%v: Scrub = %v, %d", p, c, e)
					}
				}
			}
		}
	}
	b = bed{measure(4096, parity(8)), []api.Place{place(0, 4080*8-6), place(0, 4080*8-12)}, 4}
	x, p, s := laid(t, b)
	spoil(t, b, x, []spot{{0, 0}, {1, 4}})
	if c, e := Scrub(x, p); e != api.OK || c.Text != s || c.Fixed != 2 || !Whole(x, p) {
		t.Errorf("%v: Scrub = %v, %d", p, c, e)
	}
}

// Rule 6: what a call answers hangs on the devices alone: two beds that went through the same answer the same.
func TestSameAgain(t *testing.T) {
	b := bed{measure(40, mirror(3), parity(5)), []api.Place{place(1, 3), place(0, 2)}, 3}
	h := hurt{spoilt: []spot{{0, 0}, {0, 2}, {1, 0}, {1, 4}}, away: []int{5}}
	for _, f := range []call{Look, Read, Scrub} {
		x, p, _ := laid(t, b)
		y, _, _ := laid(t, b)
		befall(t, b, x, h)
		befall(t, b, y, h)
		c, e := f(x, p)
		c2, e2 := f(y, p)
		if c != c2 || e != e2 || !same(image(x), image(y)) {
			t.Errorf("%v, %d and %v, %d", c, e, c2, e2)
		}
	}
}

// Rule 4: what a block was read as stays what it was, whatever is written behind the call.
func TestTextStays(t *testing.T) {
	b := bed{measure(40, mirror(2)), []api.Place{place(0, 0)}, 2}
	x, p, s := laid(t, b)
	c, _ := Read(x, p)
	put(t, x, p.A, text(99, 2))
	x.L[0].Spoil(16, 0, 255)
	if c.Text != s {
		t.Errorf("the text was changed")
	}
	if _, e := Look(x, p); e != api.ErrSum {
		t.Errorf("Look of what was written over = %d", e)
	}
}
