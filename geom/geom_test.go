package geom

import (
	"math"
	"slices"
	"testing"

	"polder/api"
	"polder/le"
)

// mirror and parity answer a group of so many devices.
func mirror(wide int) api.Group { return api.Group{Kind: api.Mirror, Wide: wide} }
func parity(wide int) api.Group { return api.Group{Kind: api.Parity, Wide: wide} }

// of answers a measure.
func of(secs int, l ...api.Group) api.Geom { return api.Geom{Groups: l, Secs: secs} }

// groups answers all groups that are right.
func groups() []api.Group {
	var l []api.Group
	for wide := 1; wide <= 8; wide++ {
		l = append(l, mirror(wide))
	}
	for wide := 3; wide <= 8; wide++ {
		l = append(l, parity(wide))
	}
	return l
}

// lists goes through all lists of 1 to 4 right groups.
func lists(yield func([]api.Group) bool) {
	var lay func(done []api.Group) bool
	lay = func(done []api.Group) bool {
		if len(done) > 0 && !yield(done) {
			return false
		}
		if len(done) == 4 {
			return true
		}
		for _, p := range groups() {
			if !lay(append(slices.Clone(done), p)) {
				return false
			}
		}
		return true
	}
	lay(nil)
}

// wrongNumbers: numbers of groups, devices, sizes or sectors that there never are.
var wrongNumbers = []int{math.MinInt, math.MinInt + 1, -1 << 32, -1 << 31, -4096, -4, -2, -1, 1 << 31, 1 << 32, 1<<32 + 1, math.MaxInt - 1, math.MaxInt}

// wrong: measures that aren't right, nearly all by one thing alone.
func wrong() []api.Geom {
	l := []api.Geom{
		{},
		of(24),
		of(40),
		{Groups: []api.Group{}, Secs: 40},
		{Groups: make([]api.Group, 0, 8), Secs: 40},
		of(40, mirror(1), mirror(1), mirror(1), mirror(1), mirror(1)),
		of(40, parity(3), parity(3), parity(3), parity(3), parity(3)),
		of(40, slices.Repeat([]api.Group{mirror(2)}, 100000)...),
		// Two things at once don't make up for each other.
		of(0, mirror(0)),
		of(23, parity(2)),
	}
	for _, secs := range append([]int{0, 1, 15, 16, 17, 22, 23, 4097, 4098, 8192}, wrongNumbers...) {
		l = append(l, of(secs, mirror(2)), of(secs, parity(3)), of(secs, mirror(1), parity(8)))
	}
	for _, p := range wrongGroups() {
		// Wherever it stands among others.
		l = append(l, of(40, p), of(40, p, p), of(40, p, p, p, p))
		for wide := 1; wide <= 3; wide++ {
			for at := range wide + 1 {
				right := []api.Group{mirror(2), parity(4), mirror(8)}[:wide]
				l = append(l, of(40, slices.Insert(slices.Clone(right), at, p)...))
			}
		}
	}
	return l
}

// wrongGroups: groups that aren't right.
func wrongGroups() []api.Group {
	l := []api.Group{mirror(0), parity(0), parity(1), parity(2)}
	for _, wide := range append([]int{9, 10, 16, 64}, wrongNumbers...) {
		l = append(l, mirror(wide), parity(wide))
	}
	for _, kind := range append([]int{2, 3, 4, 256}, wrongNumbers...) {
		for _, wide := range []int{0, 1, 2, 3, 8, 9} {
			l = append(l, api.Group{Kind: kind, Wide: wide})
		}
	}
	return l
}

// Promise 5.1: Right, of all measures that are, at the fewest, the most, and some other sectors.
func TestRight(t *testing.T) {
	for l := range lists {
		for _, secs := range []int{24, 25, 40, 1000, 4095, 4096} {
			if !Right(of(secs, l...)) {
				t.Fatalf("Right(%v, %d) = false", l, secs)
			}
		}
	}
	for secs := 24; secs <= 4096; secs++ {
		if !Right(of(secs, mirror(1))) || !Right(of(secs, parity(3), mirror(2))) {
			t.Errorf("Right of %d sectors = false", secs)
		}
	}
}

// Promise 5.1: Right, at each limit's two sides.
func TestRightEdges(t *testing.T) {
	cases := []struct {
		g    api.Geom
		want bool
	}{
		{of(24, mirror(1)), true},
		{of(23, mirror(1)), false},
		{of(4096, mirror(1)), true},
		{of(4097, mirror(1)), false},
		{of(24, mirror(8)), true},
		{of(24, mirror(9)), false},
		{of(24, mirror(0)), false},
		{of(24, mirror(2)), true},
		{of(24, parity(3)), true},
		{of(24, parity(2)), false},
		{of(24, parity(8)), true},
		{of(24, parity(9)), false},
		{of(24), false},
		{of(24, parity(3), parity(3), parity(3), parity(3)), true},
		{of(24, parity(3), parity(3), parity(3), parity(3), parity(3)), false},
		{of(4096, mirror(8), parity(8), mirror(8), parity(8)), true},
		{of(4096, mirror(8), parity(8), mirror(8), parity(8), mirror(8)), false},
		{of(24, api.Group{Kind: 2, Wide: 3}), false},
		{of(24, api.Group{Kind: -1, Wide: 3}), false},
		{of(24, mirror(1), mirror(1), mirror(1), mirror(0)), false},
		{of(24, mirror(1), mirror(1), mirror(1), parity(2)), false},
	}
	for _, c := range cases {
		if got := Right(c.g); got != c.want {
			t.Errorf("Right(%v) = %t", c.g, got)
		}
	}
}

// Promise 5.1: Right refuses what isn't.
func TestRightRefuses(t *testing.T) {
	for _, g := range wrong() {
		if Right(g) {
			t.Errorf("Right(%v) = true", g)
		}
	}
}

// Promises 5.1, 5.2: all but Right, of measures that aren't right: noughts, false, nothing.
func TestOfWrongMeasures(t *testing.T) {
	numbers := append([]int{0, 1, 2, 3, 4, 5, 7, 8, 31, 32, 100000}, wrongNumbers...)
	for _, g := range wrong() {
		if n := Devs(g); n != 0 {
			t.Errorf("Devs(%v) = %d", g, n)
		}
		if s := Bytes(g); s != "" {
			t.Errorf("Bytes(%v) = %q", g, s)
		}
		for _, n := range numbers {
			if got := First(g, n); got != 0 {
				t.Errorf("First(%v, %d) = %d", g, n, got)
			}
			if group, at, ok := Of(g, n); group != 0 || at != 0 || ok {
				t.Errorf("Of(%v, %d) = %d, %d, %t", g, n, group, at, ok)
			}
			if got := Sectors(g, n); got != 0 {
				t.Errorf("Sectors(%v, %d) = %d", g, n, got)
			}
			for _, size := range []int{math.MinInt, -1, 0, 1, 2, 3, 4, 5, math.MaxInt} {
				if got := Takes(g, n, size); got != 0 {
					t.Errorf("Takes(%v, %d, %d) = %d", g, n, size, got)
				}
			}
		}
	}
}

// Promise 5.1: Devs.
func TestDevs(t *testing.T) {
	cases := []struct {
		g    api.Geom
		want int
	}{
		{of(24, mirror(1)), 1},
		{of(4096, mirror(1)), 1},
		{of(24, mirror(8)), 8},
		{of(24, parity(3)), 3},
		{of(24, parity(8)), 8},
		{of(40, mirror(2), parity(4)), 6},
		{of(40, mirror(1), mirror(1), mirror(1), mirror(1)), 4},
		{of(40, parity(3), mirror(2), parity(5), mirror(7)), 17},
		{of(40, mirror(8), parity(8), mirror(8), parity(8)), 32},
	}
	for _, c := range cases {
		if n := Devs(c.g); n != c.want {
			t.Errorf("Devs(%v) = %d, want %d", c.g, n, c.want)
		}
	}
}

// Promise 5.1: First, of groups that there are, and of those that there aren't, below 0 and beyond the last.
func TestFirst(t *testing.T) {
	cases := []struct {
		g    api.Geom
		want []int
	}{
		{of(24, mirror(1)), []int{0}},
		{of(24, parity(8)), []int{0}},
		{of(40, mirror(2), parity(4)), []int{0, 2}},
		{of(40, mirror(1), mirror(1), mirror(1), mirror(1)), []int{0, 1, 2, 3}},
		{of(40, parity(3), mirror(2), parity(5), mirror(7)), []int{0, 3, 5, 10}},
		{of(4096, mirror(8), parity(8), mirror(8), parity(8)), []int{0, 8, 16, 24}},
	}
	for _, c := range cases {
		for group, want := range c.want {
			if n := First(c.g, group); n != want {
				t.Errorf("First(%v, %d) = %d, want %d", c.g, group, n, want)
			}
		}
		for _, group := range append([]int{len(c.want), len(c.want) + 1, 5, 8, 100}, wrongNumbers...) {
			if n := First(c.g, group); n != 0 {
				t.Errorf("First(%v, %d) = %d, want 0", c.g, group, n)
			}
		}
	}
}

// Promise 5.1: Of, at the first and the last device of each group.
func TestOf(t *testing.T) {
	type answer struct {
		group, at int
		ok        bool
	}
	cases := []struct {
		g    api.Geom
		want []answer
	}{
		{of(24, mirror(1)), []answer{{0, 0, true}}},
		{of(24, parity(3)), []answer{{0, 0, true}, {0, 1, true}, {0, 2, true}}},
		{of(40, mirror(2), parity(4)), []answer{{0, 0, true}, {0, 1, true}, {1, 0, true}, {1, 1, true}, {1, 2, true}, {1, 3, true}}},
		{of(40, mirror(1), parity(3), mirror(1), mirror(2)), []answer{{0, 0, true}, {1, 0, true}, {1, 1, true}, {1, 2, true}, {2, 0, true}, {3, 0, true}, {3, 1, true}}},
	}
	for _, c := range cases {
		for dev, want := range c.want {
			if group, at, ok := Of(c.g, dev); (answer{group, at, ok}) != want {
				t.Errorf("Of(%v, %d) = %d, %d, %t, want %v", c.g, dev, group, at, ok, want)
			}
		}
		for _, dev := range append([]int{len(c.want), len(c.want) + 1, 8, 31, 32, 33, 4096}, wrongNumbers...) {
			if group, at, ok := Of(c.g, dev); group != 0 || at != 0 || ok {
				t.Errorf("Of(%v, %d) = %d, %d, %t, want none", c.g, dev, group, at, ok)
			}
		}
	}
	wide := of(4096, mirror(8), parity(8), mirror(8), parity(8))
	for dev := range 32 {
		if group, at, ok := Of(wide, dev); group != dev/8 || at != dev%8 || !ok {
			t.Errorf("Of(%v, %d) = %d, %d, %t", wide, dev, group, at, ok)
		}
	}
	if group, at, ok := Of(wide, 32); group != 0 || at != 0 || ok {
		t.Errorf("Of(%v, 32) = %d, %d, %t", wide, group, at, ok)
	}
}

// Promise 5.1: Sectors, of both kinds, of the fewest and the most sectors, and of groups that there aren't.
func TestSectors(t *testing.T) {
	cases := []struct {
		g    api.Geom
		want []int
	}{
		{of(24, mirror(1)), []int{8}},
		{of(24, mirror(8)), []int{8}},
		{of(24, parity(3)), []int{24}},
		{of(24, parity(8)), []int{64}},
		{of(25, mirror(3), parity(3)), []int{9, 27}},
		{of(40, mirror(2), parity(4)), []int{24, 96}},
		{of(4096, mirror(1), mirror(8), parity(3), parity(8)), []int{4080, 4080, 12240, 32640}},
	}
	for _, c := range cases {
		for group, want := range c.want {
			if n := Sectors(c.g, group); n != want {
				t.Errorf("Sectors(%v, %d) = %d, want %d", c.g, group, n, want)
			}
		}
		for _, group := range append([]int{len(c.want), len(c.want) + 1, 5, 100}, wrongNumbers...) {
			if n := Sectors(c.g, group); n != 0 {
				t.Errorf("Sectors(%v, %d) = %d, want 0", c.g, group, n)
			}
		}
	}
	for secs := 24; secs <= 4096; secs++ {
		for _, p := range groups() {
			want := 0
			// A Mirror's devices all have the same; a Parity's each have their own.
			for place := range p.Wide {
				if p.Kind == api.Parity || place == 0 {
					want += secs - 16
				}
			}
			if n := Sectors(of(secs, p), 0); n != want {
				t.Fatalf("Sectors(%v, %d sectors) = %d, want %d", p, secs, n, want)
			}
		}
	}
}

// Promise 5.1: Takes, of the chapter's example, and of all groups and sizes that there are.
func TestTakes(t *testing.T) {
	if n := Takes(of(24, parity(3)), 0, 3); n != 6 {
		t.Errorf("Takes of a Parity of 3, of 3 sectors = %d, want 6", n)
	}
	for wide := 1; wide <= 8; wide++ {
		for size := 1; size <= 4; size++ {
			if n := Takes(of(24, mirror(wide)), 0, size); n != size {
				t.Errorf("Takes of a Mirror of %d, of %d sectors = %d", wide, size, n)
			}
		}
	}
	// By hand: s, its parities, and what is skipped.
	parities := map[int][]int{
		3: {1 + 1, 2 + 1 + 1, 3 + 2 + 1, 4 + 2},
		4: {1 + 1, 2 + 1 + 1, 3 + 1, 4 + 2},
		5: {1 + 1, 2 + 1 + 1, 3 + 1, 4 + 1 + 1},
		6: {1 + 1, 2 + 1 + 1, 3 + 1, 4 + 1 + 1},
		7: {1 + 1, 2 + 1 + 1, 3 + 1, 4 + 1 + 1},
		8: {1 + 1, 2 + 1 + 1, 3 + 1, 4 + 1 + 1},
	}
	for wide, l := range parities {
		for i, want := range l {
			for _, secs := range []int{24, 25, 4096} {
				if n := Takes(of(secs, parity(wide)), 0, i+1); n != want {
					t.Errorf("Takes of a Parity of %d, of %d sectors = %d, want %d", wide, i+1, n, want)
				}
			}
		}
	}
}

// Promise 5.1: Takes of the group that is asked for, and nothing of groups and sizes that there aren't.
func TestTakesOfGroups(t *testing.T) {
	g := of(40, mirror(2), parity(3), parity(4), mirror(1))
	want := [][]int{{1, 2, 3, 4}, {2, 4, 6, 6}, {2, 4, 4, 6}, {1, 2, 3, 4}}
	for group, l := range want {
		for i, n := range l {
			if got := Takes(g, group, i+1); got != n {
				t.Errorf("Takes(%d, %d) = %d, want %d", group, i+1, got, n)
			}
		}
		for _, size := range append([]int{0, 5, 6, 7, 8, 64}, wrongNumbers...) {
			if got := Takes(g, group, size); got != 0 {
				t.Errorf("Takes(%d, %d) = %d, want 0", group, size, got)
			}
		}
	}
	for wide := 1; wide <= 4; wide++ {
		part := of(40, g.Groups[:wide]...)
		for _, group := range append([]int{wide, wide + 1, 5, 100}, wrongNumbers...) {
			for size := range 6 {
				if got := Takes(part, group, size); got != 0 {
					t.Errorf("Takes(%v, %d, %d) = %d, want 0", part, group, size, got)
				}
			}
		}
	}
}

// Promise 5.2: Bytes, byte by byte.
func TestBytes(t *testing.T) {
	cases := []struct {
		g    api.Geom
		want string
	}{
		{of(24, mirror(1)), "\x01\x00\x00\x00\x18\x00\x00\x00" + "\x00\x00\x00\x00\x01\x00\x00\x00"},
		{of(24, parity(3)), "\x01\x00\x00\x00\x18\x00\x00\x00" + "\x01\x00\x00\x00\x03\x00\x00\x00"},
		{of(4096, mirror(8)), "\x01\x00\x00\x00\x00\x10\x00\x00" + "\x00\x00\x00\x00\x08\x00\x00\x00"},
		{of(40, mirror(2), parity(4)), "\x02\x00\x00\x00\x28\x00\x00\x00" + "\x00\x00\x00\x00\x02\x00\x00\x00" + "\x01\x00\x00\x00\x04\x00\x00\x00"},
		{of(40, parity(4), mirror(2)), "\x02\x00\x00\x00\x28\x00\x00\x00" + "\x01\x00\x00\x00\x04\x00\x00\x00" + "\x00\x00\x00\x00\x02\x00\x00\x00"},
		{of(259, parity(8), mirror(1), parity(5), mirror(7)), "\x04\x00\x00\x00\x03\x01\x00\x00" + "\x01\x00\x00\x00\x08\x00\x00\x00" + "\x00\x00\x00\x00\x01\x00\x00\x00" + "\x01\x00\x00\x00\x05\x00\x00\x00" + "\x00\x00\x00\x00\x07\x00\x00\x00"},
	}
	for _, c := range cases {
		if s := Bytes(c.g); s != c.want {
			t.Errorf("Bytes(%v) = %q, want %q", c.g, s, c.want)
		}
	}
}

// Promise 5.2: of each right measure the bytes tell all of it, and nothing stands behind that.
func TestBytesAreRead(t *testing.T) {
	for l := range lists {
		g := of(24+len(l)*1018, l...)
		b := le.New(Bytes(g))
		small := func() int {
			n, e := b.U32()
			if e != api.OK {
				t.Fatalf("Bytes(%v) ends too soon", g)
			}
			return n
		}
		if n, secs := small(), small(); n != len(l) || secs != g.Secs {
			t.Fatalf("Bytes(%v) has %d groups, %d sectors", g, n, secs)
		}
		for i, p := range l {
			if kind, wide := small(), small(); kind != p.Kind || wide != p.Wide {
				t.Fatalf("Bytes(%v) has at group %d %d, %d", g, i, kind, wide)
			}
		}
		if b.Left() != 0 {
			t.Fatalf("Bytes(%v) has %d bytes more", g, b.Left())
		}
	}
}

// Promise 5.3: each device is of one group: those of the groups, numbered group by group, are all that there are, and each is found again.
func TestEachDeviceIsOfOneGroup(t *testing.T) {
	for l := range lists {
		g, dev := of(24, l...), 0
		for group, p := range l {
			if n := First(g, group); n != dev {
				t.Fatalf("First(%v, %d) = %d, want %d", l, group, n, dev)
			}
			for place := range p.Wide {
				if a, b, ok := Of(g, dev); a != group || b != place || !ok {
					t.Fatalf("Of(%v, %d) = %d, %d, %t, want %d, %d", l, dev, a, b, ok, group, place)
				}
				dev++
			}
		}
		if n := Devs(g); n != dev {
			t.Fatalf("Devs(%v) = %d, want %d", l, n, dev)
		}
		for _, beyond := range []int{-1, dev, dev + 1} {
			if a, b, ok := Of(g, beyond); a != 0 || b != 0 || ok {
				t.Fatalf("Of(%v, %d) = %d, %d, %t, want none", l, beyond, a, b, ok)
			}
		}
	}
}

// Promise 5.3: what a block takes of a Parity is even, and more than its sectors; it is skipped no more than once, and fits into the smallest group.
func TestTakesIsEven(t *testing.T) {
	for l := range lists {
		g := of(24, l...)
		for group, p := range l {
			for size := 1; size <= 4; size++ {
				n := Takes(g, group, size)
				if n > Sectors(g, group) {
					t.Fatalf("Takes(%v, %d, %d) = %d, of %d sectors", l, group, size, n, Sectors(g, group))
				}
				if p.Kind != api.Parity {
					continue
				}
				if n%2 != 0 || n <= size {
					t.Fatalf("Takes(%v, %d, %d) = %d", l, group, size, n)
				}
				// Sectors laid row by row, each row behind its parity.
				laid := 0
				for i := range size {
					if i%(p.Wide-1) == 0 {
						laid++
					}
					laid++
				}
				if n != laid && n != laid+1 {
					t.Fatalf("Takes(%v, %d, %d) = %d, of %d laid", l, group, size, n, laid)
				}
			}
		}
	}
}

// Rule 4: a measure that is handed in isn't changed, nor the spare room behind its groups; and that room says nothing.
func TestMeasureIsLeft(t *testing.T) {
	room := []api.Group{mirror(2), parity(4), mirror(0), parity(99), {Kind: 7, Wide: 7}}
	was := slices.Clone(room)
	g := of(40, room[:2]...)
	for range 2 {
		if !Right(g) || Devs(g) != 6 || First(g, 1) != 2 || First(g, 2) != 0 || Sectors(g, 1) != 96 || Sectors(g, 2) != 0 || Takes(g, 1, 2) != 4 || Takes(g, 2, 2) != 0 {
			t.Error("what stands behind the groups is counted")
		}
		if group, at, ok := Of(g, 5); group != 1 || at != 3 || !ok {
			t.Errorf("Of = %d, %d, %t", group, at, ok)
		}
		if Bytes(g) != Bytes(of(40, mirror(2), parity(4))) {
			t.Errorf("Bytes = %q", Bytes(g))
		}
	}
	if !slices.Equal(room, was) || len(g.Groups) != 2 || g.Secs != 40 {
		t.Errorf("the measure has become %v, its room %v", g, room)
	}
}

// Rule 6: what is answered hangs on the measure as it is handed in, not on an earlier one.
func TestNothingIsKept(t *testing.T) {
	l := []api.Group{mirror(2), parity(4)}
	g := of(40, l...)
	s := Bytes(g)
	l[1] = parity(2)
	if Right(g) || Devs(g) != 0 || Bytes(g) != "" {
		t.Error("a group that has become wrong is taken for right")
	}
	l[1] = mirror(3)
	if !Right(g) || Devs(g) != 5 || Sectors(g, 1) != 24 || Takes(g, 1, 3) != 3 {
		t.Error("a group that has become another one is taken for what it was")
	}
	if s != Bytes(of(40, mirror(2), parity(4))) {
		t.Errorf("the bytes have become %q", s)
	}
}
