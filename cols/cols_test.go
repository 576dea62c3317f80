package cols

import (
	"math"
	"slices"
	"testing"

	"polder/api"
	"polder/geom"
)

// mirror and parity answer a group of so many devices.
func mirror(wide int) api.Group { return api.Group{Kind: api.Mirror, Wide: wide} }
func parity(wide int) api.Group { return api.Group{Kind: api.Parity, Wide: wide} }

// measure answers a measure of these groups.
func measure(secs int, l ...api.Group) api.Geom { return api.Geom{Groups: l, Secs: secs} }

// place answers a place.
func place(group, at int) api.Place { return api.Place{Group: group, At: at} }

// groups answers all groups that are right.
func groups() []api.Group {
	var l []api.Group
	for wide := 1; wide <= 8; wide++ {
		l = append(l, mirror(wide))
	}
	for wide := 3; wide <= 8; wide++ {
		l = append(l, parity(wide))
	}
	return l
}

// measures answers measures that have each right group, alone, and as the first, a middle, and the last of several.
func measures() []api.Geom {
	var l []api.Geom
	for _, p := range groups() {
		l = append(l,
			measure(24, p),
			measure(25, p, mirror(2)),
			measure(27, parity(3), p),
			measure(24, mirror(3), p, parity(4)),
			measure(31, mirror(8), parity(8), parity(5), p))
	}
	return l
}

// blocks goes through all blocks that a measure has room for.
func blocks(g api.Geom, yield func(p api.Place, size int)) {
	for group := range g.Groups {
		for size := 1; size <= 4; size++ {
			for at := range geom.Sectors(g, group) - geom.Takes(g, group, size) + 1 {
				yield(place(group, at), size)
			}
		}
	}
}

// wrongNumbers: numbers that are never a group's, a size, a sector's or a place's, and beyond them those by which a sum would wrap.
var wrongNumbers = []int{math.MinInt, math.MinInt + 1, math.MinInt + 16, -1 << 62, -1 << 32, -1 << 31, -4096, -24, -16, -8, -6, -4, -3, -2, -1, 32641, 1 << 31, 1 << 32, 1<<32 + 1, 1 << 62, math.MaxInt - 22, math.MaxInt - 16, math.MaxInt - 15, math.MaxInt - 6, math.MaxInt - 5, math.MaxInt - 4, math.MaxInt - 3, math.MaxInt - 2, math.MaxInt - 1, math.MaxInt}

// wrongMeasures: measures that aren't right.
func wrongMeasures() []api.Geom {
	l := []api.Geom{
		{},
		measure(24),
		{Groups: []api.Group{}, Secs: 40},
		measure(40, mirror(0)),
		measure(40, mirror(9)),
		measure(40, mirror(-1)),
		measure(40, mirror(math.MaxInt)),
		measure(40, parity(0)),
		measure(40, parity(1)),
		measure(40, parity(2)),
		measure(40, parity(9)),
		measure(40, parity(math.MinInt)),
		measure(40, api.Group{Kind: 2, Wide: 3}),
		measure(40, api.Group{Kind: -1, Wide: 3}),
		measure(40, mirror(2), parity(3), parity(2)),
		measure(40, parity(3), mirror(2), mirror(0)),
		measure(40, slices.Repeat([]api.Group{mirror(2)}, 5)...),
	}
	for _, secs := range []int{math.MinInt, -1, 0, 1, 15, 16, 17, 22, 23, 4097, 1 << 32, math.MaxInt} {
		l = append(l, measure(secs, mirror(2)), measure(secs, parity(3)), measure(secs, mirror(1), parity(8)))
	}
	return l
}

// refused tells that a block has no columns, and none of its sectors has.
func refused(t *testing.T, g api.Geom, p api.Place, size int) {
	t.Helper()
	if l, e := Of(g, p, size); e != api.ErrArg || len(l) != 0 {
		t.Errorf("Of(%v, %v, %d) = %v, %d, want ErrArg", g, p, size, l, e)
	}
	for _, i := range []int{math.MinInt, -1, 0, 1, 2, 3, 4, math.MaxInt} {
		if l, ok := Data(g, p, size, i); ok || len(l) != 0 {
			t.Errorf("Data(%v, %v, %d, %d) = %v, %t, want none", g, p, size, i, l, ok)
		}
	}
}

// laid answers what the columns of a block are to be, by a list of all of the group's sectors in order.
func laid(g api.Geom, p api.Place, size int) []api.Col {
	wide, first := g.Groups[p.Group].Wide, 0
	for _, ahead := range g.Groups[:p.Group] {
		first += ahead.Wide
	}
	var l []api.Col
	if g.Groups[p.Group].Kind == api.Mirror {
		for dev := first; dev < first+wide; dev++ {
			for i := range size {
				l = append(l, api.Col{Dev: dev, At: 16 + p.At + i, Row: i})
			}
		}
		return l
	}
	var sectors []api.Col
	for at := 16; at < g.Secs; at++ {
		for dev := first; dev < first+wide; dev++ {
			sectors = append(sectors, api.Col{Dev: dev, At: at})
		}
	}
	for left, row := size, 0; left > 0; row++ {
		data := min(left, wide-1)
		for i := range data + 1 {
			c := sectors[p.At+len(l)]
			c.Row, c.Par = row, i == 0
			l = append(l, c)
		}
		left -= data
	}
	return l
}

// Promise 6.1: Of, the chapter's example.
func TestOfExample(t *testing.T) {
	l, e := Of(measure(24, parity(3)), place(0, 1), 2)
	want := []api.Col{{Dev: 1, At: 16, Par: true}, {Dev: 2, At: 16}, {Dev: 0, At: 17}}
	if e != api.OK || !slices.Equal(l, want) {
		t.Errorf("Of = %v, %d, want %v", l, e, want)
	}
}

// Promise 6.1: Of, column by column: both kinds, at their fewest and most devices, sectors and places.
func TestOf(t *testing.T) {
	cases := []struct {
		g    api.Geom
		p    api.Place
		size int
		want []api.Col
	}{
		{measure(24, mirror(1)), place(0, 0), 1, []api.Col{{Dev: 0, At: 16}}},
		{measure(24, mirror(1)), place(0, 7), 1, []api.Col{{Dev: 0, At: 23}}},
		{measure(24, mirror(1)), place(0, 4), 4, []api.Col{{Dev: 0, At: 20}, {Dev: 0, At: 21, Row: 1}, {Dev: 0, At: 22, Row: 2}, {Dev: 0, At: 23, Row: 3}}},
		{measure(4096, mirror(1)), place(0, 4079), 1, []api.Col{{Dev: 0, At: 4095}}},
		{measure(26, mirror(2), parity(3)), place(0, 8), 2, []api.Col{{Dev: 0, At: 24}, {Dev: 0, At: 25, Row: 1}, {Dev: 1, At: 24}, {Dev: 1, At: 25, Row: 1}}},
		{measure(24, mirror(8)), place(0, 5), 1, []api.Col{{Dev: 0, At: 21}, {Dev: 1, At: 21}, {Dev: 2, At: 21}, {Dev: 3, At: 21}, {Dev: 4, At: 21}, {Dev: 5, At: 21}, {Dev: 6, At: 21}, {Dev: 7, At: 21}}},
		{measure(40, parity(3), mirror(2)), place(1, 3), 2, []api.Col{{Dev: 3, At: 19}, {Dev: 3, At: 20, Row: 1}, {Dev: 4, At: 19}, {Dev: 4, At: 20, Row: 1}}},
		// One sector, and its parity.
		{measure(24, parity(3)), place(0, 0), 1, []api.Col{{Dev: 0, At: 16, Par: true}, {Dev: 1, At: 16}}},
		{measure(24, parity(8)), place(0, 0), 1, []api.Col{{Dev: 0, At: 16, Par: true}, {Dev: 1, At: 16}}},
		{measure(24, parity(8)), place(0, 62), 1, []api.Col{{Dev: 6, At: 23, Par: true}, {Dev: 7, At: 23}}},
		{measure(24, parity(8)), place(0, 7), 1, []api.Col{{Dev: 7, At: 16, Par: true}, {Dev: 0, At: 17}}},
		// A full row.
		{measure(24, parity(3)), place(0, 0), 2, []api.Col{{Dev: 0, At: 16, Par: true}, {Dev: 1, At: 16}, {Dev: 2, At: 16}}},
		{measure(24, parity(5)), place(0, 4), 4, []api.Col{{Dev: 4, At: 16, Par: true}, {Dev: 0, At: 17}, {Dev: 1, At: 17}, {Dev: 2, At: 17}, {Dev: 3, At: 17}}},
		// A full row, and one of what is left; then one is skipped.
		{measure(26, mirror(2), parity(3)), place(1, 2), 3, []api.Col{{Dev: 4, At: 16, Par: true}, {Dev: 2, At: 17}, {Dev: 3, At: 17}, {Dev: 4, At: 17, Par: true, Row: 1}, {Dev: 2, At: 18, Row: 1}}},
		{measure(24, parity(3)), place(0, 18), 3, []api.Col{{Dev: 0, At: 22, Par: true}, {Dev: 1, At: 22}, {Dev: 2, At: 22}, {Dev: 0, At: 23, Par: true, Row: 1}, {Dev: 1, At: 23, Row: 1}}},
		{measure(24, parity(4)), place(0, 1), 4, []api.Col{{Dev: 1, At: 16, Par: true}, {Dev: 2, At: 16}, {Dev: 3, At: 16}, {Dev: 0, At: 17}, {Dev: 1, At: 17, Par: true, Row: 1}, {Dev: 2, At: 17, Row: 1}}},
		// Two full rows, up to the last of the group's sectors.
		{measure(24, parity(3)), place(0, 18), 4, []api.Col{{Dev: 0, At: 22, Par: true}, {Dev: 1, At: 22}, {Dev: 2, At: 22}, {Dev: 0, At: 23, Par: true, Row: 1}, {Dev: 1, At: 23, Row: 1}, {Dev: 2, At: 23, Row: 1}}},
		{measure(4096, mirror(8), mirror(8), mirror(8), parity(8)), place(3, 32634), 4, []api.Col{{Dev: 26, At: 4095, Par: true}, {Dev: 27, At: 4095}, {Dev: 28, At: 4095}, {Dev: 29, At: 4095}, {Dev: 30, At: 4095}}},
	}
	for _, c := range cases {
		if l, e := Of(c.g, c.p, c.size); e != api.OK || !slices.Equal(l, c.want) {
			t.Errorf("Of(%v, %v, %d) = %v, %d, want %v", c.g, c.p, c.size, l, e, c.want)
		}
	}
}

// Promise 6.1: Of, of all blocks of all groups, wherever they stand among others.
func TestOfAll(t *testing.T) {
	for _, g := range measures() {
		blocks(g, func(p api.Place, size int) {
			if l, e := Of(g, p, size); e != api.OK || !slices.Equal(l, laid(g, p, size)) {
				t.Fatalf("Of(%v, %v, %d) = %v, %d, want %v", g, p, size, l, e, laid(g, p, size))
			}
		})
	}
}

// Promise 6.1: ErrArg of a measure that isn't right, whatever else is asked.
func TestOfWrongMeasures(t *testing.T) {
	for _, g := range wrongMeasures() {
		for _, group := range []int{-1, 0, 1, 2, 4, 5, math.MinInt, math.MaxInt} {
			for _, at := range []int{-1, 0, 1, math.MaxInt} {
				for _, size := range []int{-1, 0, 1, 4, 5} {
					refused(t, g, place(group, at), size)
				}
			}
		}
	}
}

// Promise 6.1: ErrArg of sizes and groups that there aren't.
func TestOfWrongSizesAndGroups(t *testing.T) {
	for _, g := range measures() {
		for group := range g.Groups {
			for _, size := range append([]int{0, 5, 6, 7, 8, 64}, wrongNumbers...) {
				refused(t, g, place(group, 0), size)
			}
		}
		n := len(g.Groups)
		for _, group := range append([]int{n, n + 1, 5, 8}, wrongNumbers...) {
			for size := 1; size <= 4; size++ {
				refused(t, g, place(group, 0), size)
			}
		}
	}
}

// Promise 6.1: ErrArg of what begins below 0 or goes beyond the group's sectors, be it by what is skipped alone, and by numbers whose sum would wrap.
func TestOfWrongPlaces(t *testing.T) {
	for _, g := range measures() {
		for group := range g.Groups {
			for size := 1; size <= 4; size++ {
				last := geom.Sectors(g, group) - geom.Takes(g, group, size)
				if _, e := Of(g, place(group, last), size); e != api.OK {
					t.Errorf("Of(%v, %d of %d, %d) = %d", g, last, group, size, e)
				}
				for _, at := range append([]int{last + 1, last + 2, last + size, geom.Sectors(g, group)}, wrongNumbers...) {
					if at > last || at < 0 {
						refused(t, g, place(group, at), size)
					}
				}
			}
		}
	}
}

// Promise 6.1: what is skipped counts: five columns would fit behind 19, but six sectors are taken.
func TestSkippedCounts(t *testing.T) {
	g := measure(24, parity(3))
	if l, e := Of(g, place(0, 18), 3); e != api.OK || len(l) != 5 {
		t.Errorf("Of = %v, %d", l, e)
	}
	refused(t, g, place(0, 19), 3)
	// Of four sectors none is skipped, of a Parity of 4 none of three.
	if l, e := Of(g, place(0, 18), 4); e != api.OK || len(l) != 6 {
		t.Errorf("Of = %v, %d", l, e)
	}
	if l, e := Of(measure(24, parity(4)), place(0, 28), 3); e != api.OK || len(l) != 4 {
		t.Errorf("Of = %v, %d", l, e)
	}
}

// Promise 6.2: Data, by hand.
func TestData(t *testing.T) {
	g := measure(26, mirror(2), parity(3), parity(8))
	cases := []struct {
		p    api.Place
		size int
		want [][]api.Col
	}{
		{place(0, 9), 1, [][]api.Col{{{Dev: 0, At: 25}, {Dev: 1, At: 25}}}},
		{place(0, 6), 4, [][]api.Col{
			{{Dev: 0, At: 22}, {Dev: 1, At: 22}},
			{{Dev: 0, At: 23, Row: 1}, {Dev: 1, At: 23, Row: 1}},
			{{Dev: 0, At: 24, Row: 2}, {Dev: 1, At: 24, Row: 2}},
			{{Dev: 0, At: 25, Row: 3}, {Dev: 1, At: 25, Row: 3}},
		}},
		{place(1, 2), 3, [][]api.Col{{{Dev: 2, At: 17}}, {{Dev: 3, At: 17}}, {{Dev: 2, At: 18, Row: 1}}}},
		{place(1, 0), 4, [][]api.Col{{{Dev: 3, At: 16}}, {{Dev: 4, At: 16}}, {{Dev: 3, At: 17, Row: 1}}, {{Dev: 4, At: 17, Row: 1}}}},
		{place(1, 28), 1, [][]api.Col{{{Dev: 4, At: 25}}}},
		{place(2, 5), 4, [][]api.Col{{{Dev: 11, At: 16}}, {{Dev: 12, At: 16}}, {{Dev: 5, At: 17}}, {{Dev: 6, At: 17}}}},
	}
	for _, c := range cases {
		for i, want := range c.want {
			if l, ok := Data(g, c.p, c.size, i); !ok || !slices.Equal(l, want) {
				t.Errorf("Data(%v, %d, %d) = %v, %t, want %v", c.p, c.size, i, l, ok, want)
			}
		}
		for _, i := range append([]int{c.size, c.size + 1, 2 * c.size, 7, 8}, wrongNumbers...) {
			if l, ok := Data(g, c.p, c.size, i); ok || len(l) != 0 {
				t.Errorf("Data(%v, %d, %d) = %v, %t, want none", c.p, c.size, i, l, ok)
			}
		}
	}
}

// Promise 6.2: Data, of each sector of all blocks: together they are the block's columns but for the parities, in the same order on each device.
func TestDataAll(t *testing.T) {
	for _, g := range measures() {
		blocks(g, func(p api.Place, size int) {
			want := slices.DeleteFunc(laid(g, p, size), func(c api.Col) bool { return c.Par })
			wide := len(want) / size
			if kind := g.Groups[p.Group].Kind; kind == api.Parity && wide != 1 {
				t.Fatalf("%d data columns of %d sectors", len(want), size)
			}
			for i := range size {
				l, ok := Data(g, p, size, i)
				if !ok || len(l) != wide {
					t.Fatalf("Data(%v, %v, %d, %d) = %v, %t", g, p, size, i, l, ok)
				}
				for dev, c := range l {
					if c != want[dev*size+i] {
						t.Fatalf("Data(%v, %v, %d, %d) = %v, has at %d not %v", g, p, size, i, l, dev, want[dev*size+i])
					}
				}
			}
			for _, i := range []int{-size, -1, size, size + 1, 4, len(want), math.MinInt, math.MaxInt} {
				if l, ok := Data(g, p, size, i); ok || len(l) != 0 {
					t.Fatalf("Data(%v, %v, %d, %d) = %v, %t, want none", g, p, size, i, l, ok)
				}
			}
		})
	}
}

// Promise 6.2: Devs, of no columns, of one device's, of several ones', in any order.
func TestDevs(t *testing.T) {
	cases := []struct {
		l    []api.Col
		want []int
	}{
		{nil, nil},
		{[]api.Col{}, nil},
		{make([]api.Col, 0, 8), nil},
		{[]api.Col{{}}, []int{0}},
		{[]api.Col{{Dev: 7, At: 16}}, []int{7}},
		{[]api.Col{{Dev: 7, At: 16}, {Dev: 7, At: 17, Row: 1}, {Dev: 7, At: 16}}, []int{7}},
		{[]api.Col{{Dev: 4, Par: true}, {Dev: 2}, {Dev: 3}, {Dev: 4, Par: true, Row: 1}, {Dev: 2, Row: 1}}, []int{2, 3, 4}},
		{[]api.Col{{Dev: 31}, {Dev: 10}, {Dev: 9}, {Dev: 31}, {Dev: 0}, {Dev: 9}}, []int{0, 9, 10, 31}},
		{[]api.Col{{Dev: math.MaxInt}, {Dev: -1}, {Dev: math.MinInt}, {Dev: 0}, {Dev: -1}}, []int{math.MinInt, -1, 0, math.MaxInt}},
	}
	for _, c := range cases {
		was := slices.Clone(c.l)
		if l := Devs(c.l); !slices.Equal(l, c.want) {
			t.Errorf("Devs(%v) = %v, want %v", c.l, l, c.want)
		}
		if !slices.Equal(c.l, was) {
			t.Errorf("the columns %v have become %v", was, c.l)
		}
	}
}

// Promise 6.2: Rows, of no columns, and wherever the greatest row stands.
func TestRows(t *testing.T) {
	cases := []struct {
		l    []api.Col
		want int
	}{
		{nil, 0},
		{[]api.Col{}, 0},
		{make([]api.Col, 0, 8), 0},
		{[]api.Col{{}}, 1},
		{[]api.Col{{Dev: 5, At: 30, Par: true}}, 1},
		{[]api.Col{{Row: 3}}, 4},
		{[]api.Col{{Row: 0}, {Row: 0}, {Row: 1}}, 2},
		{[]api.Col{{Row: 1}, {Row: 0}}, 2},
		{[]api.Col{{Row: 0}, {Row: 7}, {Row: 2}}, 8},
		{[]api.Col{{Row: math.MaxInt - 1}, {Row: 0}}, math.MaxInt},
		{[]api.Col{{Row: -1}}, 0},
		{[]api.Col{{Row: -3}, {Row: -2}}, -1},
		{[]api.Col{{Row: math.MinInt}, {Row: 0}}, 1},
	}
	for _, c := range cases {
		if n := Rows(c.l); n != c.want {
			t.Errorf("Rows(%v) = %d, want %d", c.l, n, c.want)
		}
	}
}

// Promise 6.2: Devs and Rows of all blocks' columns.
func TestDevsAndRowsAll(t *testing.T) {
	for _, g := range measures() {
		blocks(g, func(p api.Place, size int) {
			l, _ := Of(g, p, size)
			first, wide := geom.First(g, p.Group), g.Groups[p.Group].Wide
			used, rows := wide, size
			if g.Groups[p.Group].Kind == api.Parity {
				// A block of more than a row has a column of each device.
				used, rows = min(wide, size+1), (size+wide-2)/(wide-1)
			}
			devs := Devs(l)
			if len(devs) != used || !slices.IsSorted(devs) || devs[0] < first || devs[used-1] >= first+wide {
				t.Fatalf("Devs(%v) = %v, want %d of %d from %d on", l, devs, used, wide, first)
			}
			for _, dev := range devs {
				if !slices.ContainsFunc(l, func(c api.Col) bool { return c.Dev == dev }) {
					t.Fatalf("Devs(%v) = %v", l, devs)
				}
			}
			if n := Rows(l); n != rows {
				t.Fatalf("Rows(%v) = %d, want %d", l, n, rows)
			}
		})
	}
}

// sector is what a column is, whatever it is for.
type sector struct{ dev, at int }

// Promise 6.3: no two columns of a block are the same sector, and each is one of its group's devices', behind Front.
func TestColumnsAreApart(t *testing.T) {
	for _, g := range measures() {
		blocks(g, func(p api.Place, size int) {
			l, e := Of(g, p, size)
			seen := map[sector]int{}
			for i, c := range l {
				if k, ok := seen[sector{c.Dev, c.At}]; ok {
					t.Fatalf("Of(%v, %v, %d) has the same sector at %d and %d", g, p, size, k, i)
				}
				seen[sector{c.Dev, c.At}] = i
				if group, _, ok := geom.Of(g, c.Dev); !ok || group != p.Group || c.At < 16 || c.At >= g.Secs {
					t.Fatalf("Of(%v, %v, %d) has %v", g, p, size, c)
				}
			}
			if e != api.OK || len(l) == 0 {
				t.Fatalf("Of(%v, %v, %d) = %v, %d", g, p, size, l, e)
			}
		})
	}
}

// Promise 6.3: of all pairs of blocks whose stretches share no sector, no column of one is another one's; blocks of other groups among them.
func TestBlocksAreApart(t *testing.T) {
	type block struct {
		p     api.Place
		takes int
		l     []api.Col
	}
	l := []api.Geom{measure(24, mirror(2), parity(3)), measure(24, parity(4), mirror(1))}
	for _, p := range groups() {
		l = append(l, measure(24, p))
	}
	for _, g := range l {
		var all []block
		blocks(g, func(p api.Place, size int) {
			l, _ := Of(g, p, size)
			all = append(all, block{p, geom.Takes(g, p.Group, size), l})
		})
		for i, a := range all {
			has := map[sector]int{}
			for _, c := range a.l {
				has[sector{c.Dev, c.At}]++
			}
			for _, b := range all[:i] {
				if a.p.Group == b.p.Group && a.p.At < b.p.At+b.takes && b.p.At < a.p.At+a.takes {
					continue
				}
				for _, c := range b.l {
					if has[sector{c.Dev, c.At}] > 0 {
						t.Fatalf("of %v, %v and %v both have %v", g, a.p, b.p, c)
					}
				}
			}
		}
	}
}

// Promise 6.3: blocks laid one behind the other fill a whole pool, and no sector of it is used twice.
func TestPoolIsFilled(t *testing.T) {
	for _, g := range append(measures(), measure(4096, parity(8), parity(3), mirror(8), mirror(1))) {
		seen, columns := map[sector]int{}, 0
		for group := range g.Groups {
			for at, k := 0, 0; ; k++ {
				size := k%4 + 1
				l, e := Of(g, place(group, at), size)
				if e != api.OK {
					break
				}
				for _, c := range l {
					seen[sector{c.Dev, c.At}]++
				}
				columns += len(l)
				at += geom.Takes(g, group, size)
			}
		}
		if len(seen) != columns || columns == 0 {
			t.Errorf("of %v %d columns are %d sectors", g, columns, len(seen))
		}
	}
}

// Promise 6.3: in a row of a Parity each column is of another device; its parity is the first, and there is one alone.
func TestRowsAreOfUnlikeDevices(t *testing.T) {
	for _, g := range measures() {
		blocks(g, func(p api.Place, size int) {
			if g.Groups[p.Group].Kind != api.Parity {
				return
			}
			l, _ := Of(g, p, size)
			for row := range Rows(l) {
				of := slices.DeleteFunc(slices.Clone(l), func(c api.Col) bool { return c.Row != row })
				if len(Devs(of)) != len(of) || len(of) < 2 || len(of) > g.Groups[p.Group].Wide {
					t.Fatalf("Of(%v, %v, %d) has in row %d %v", g, p, size, row, of)
				}
				for i, c := range of {
					if c.Par != (i == 0) {
						t.Fatalf("Of(%v, %v, %d) has in row %d %v", g, p, size, row, of)
					}
				}
			}
		})
	}
}

// Rule 4: what is handed in isn't changed, spare room included, and that room says nothing.
func TestArgumentsAreLeft(t *testing.T) {
	room := []api.Group{mirror(2), parity(4), mirror(0), {Kind: 7, Wide: 7}}
	was := slices.Clone(room)
	g := measure(40, room[:2]...)
	for range 2 {
		if l, e := Of(g, place(1, 3), 4); e != api.OK || len(l) != 6 {
			t.Errorf("Of = %v, %d", l, e)
		}
		if l, ok := Data(g, place(0, 3), 4, 1); !ok || len(l) != 2 {
			t.Errorf("Data = %v, %t", l, ok)
		}
		refused(t, g, place(2, 0), 1)
	}
	if !slices.Equal(room, was) {
		t.Errorf("the groups have become %v", room)
	}
	columns := []api.Col{{Dev: 3}, {Dev: 1, Row: 2}, {Dev: 3}, {Dev: 0, Row: 9}, {Dev: 9}}
	before := slices.Clone(columns)
	if l := Devs(columns[:3]); !slices.Equal(l, []int{1, 3}) {
		t.Errorf("Devs = %v", l)
	}
	if n := Rows(columns[:3]); n != 3 {
		t.Errorf("Rows = %d", n)
	}
	if !slices.Equal(columns, before) {
		t.Errorf("the columns have become %v", columns)
	}
}

// Rules 4, 6: what is handed out is new memory, spare room included: what is written there isn't seen by a later call.
func TestAnswersAreNew(t *testing.T) {
	g := measure(40, mirror(2), parity(4))
	for group := range g.Groups {
		p := place(group, 2)
		of, _ := Of(g, p, 3)
		data, _ := Data(g, p, 3, 1)
		devs := Devs(of)
		kept, keptData, keptDevs := slices.Clone(of), slices.Clone(data), slices.Clone(devs)
		for _, l := range [][]api.Col{of[:cap(of)], data[:cap(data)]} {
			for i := range l {
				l[i] = api.Col{Dev: 99, At: 99, Par: true, Row: 99}
			}
		}
		for i := range devs[:cap(devs)] {
			devs[:cap(devs)][i] = 99
		}
		if l, e := Of(g, p, 3); e != api.OK || !slices.Equal(l, kept) {
			t.Errorf("Of = %v, %d, was %v", l, e, kept)
		}
		if l, ok := Data(g, p, 3, 1); !ok || !slices.Equal(l, keptData) {
			t.Errorf("Data = %v, %t, was %v", l, ok, keptData)
		}
		if l := Devs(kept); !slices.Equal(l, keptDevs) {
			t.Errorf("Devs = %v, was %v", l, keptDevs)
		}
	}
}
