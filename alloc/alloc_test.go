package alloc

import (
	"math"
	"slices"
	"testing"

	"polder/api"
	"polder/cols"
	"polder/ptr"
)

// mirror and parity answer a group of so many devices.
func mirror(wide int) api.Group { return api.Group{Kind: api.Mirror, Wide: wide} }
func parity(wide int) api.Group { return api.Group{Kind: api.Parity, Wide: wide} }

// measure answers a measure of these groups.
func measure(secs int, l ...api.Group) api.Geom { return api.Geom{Groups: l, Secs: secs} }

// place answers a place.
func place(group, at int) api.Place { return api.Place{Group: group, At: at} }

// block answers a right pointer at one place.
func block(group, at, size int) api.Ptr {
	return api.Ptr{A: place(group, at), Size: size, Birth: 1}
}

// pair answers a right pointer at two places.
func pair(a, b api.Place, size int) api.Ptr {
	return api.Ptr{A: a, B: b, Two: true, Size: size, Birth: 1}
}

// groups answers all groups that are right.
func groups() []api.Group {
	var l []api.Group
	for wide := 1; wide <= 8; wide++ {
		l = append(l, mirror(wide))
	}
	for wide := 3; wide <= 8; wide++ {
		l = append(l, parity(wide))
	}
	return l
}

// measures answers measures of one group of each kind, of two that are alike, and of several that aren't, on small devices.
func measures() []api.Geom {
	var l []api.Geom
	for _, p := range groups() {
		l = append(l, measure(24, p), measure(25, p), measure(24, p, p), measure(26, p, mirror(2)), measure(25, mirror(1), p))
	}
	return append(l,
		measure(24, mirror(2), parity(3)),
		measure(27, parity(5), mirror(3), parity(4)),
		measure(24, mirror(1), mirror(2), mirror(8)),
		measure(24, mirror(1), parity(3), mirror(4), parity(8)),
		measure(25, parity(4), parity(4), parity(3), parity(6)),
		measure(30, mirror(3), mirror(3), mirror(3), mirror(3)),
	)
}

// wrong answers measures that aren't right.
func wrong() []api.Geom {
	return []api.Geom{
		{},
		{Secs: 40},
		{Groups: []api.Group{}, Secs: 40},
		measure(40, mirror(0)),
		measure(40, mirror(-1)),
		measure(40, mirror(9)),
		measure(40, mirror(math.MaxInt)),
		measure(40, parity(2)),
		measure(40, parity(0)),
		measure(40, parity(9)),
		measure(40, parity(math.MinInt)),
		measure(40, api.Group{Kind: 2, Wide: 3}),
		measure(40, api.Group{Kind: -1, Wide: 3}),
		measure(40, mirror(2), parity(3), parity(2)),
		measure(40, mirror(0), parity(3), mirror(2)),
		measure(40, mirror(1), mirror(1), mirror(1), mirror(1), mirror(1)),
		measure(23, mirror(2), parity(3)),
		measure(16, mirror(2)),
		measure(0, mirror(2), parity(3)),
		measure(-40, mirror(2), parity(3)),
		measure(4097, mirror(2), parity(3)),
		measure(math.MaxInt, mirror(2), parity(3)),
		measure(math.MinInt, mirror(2), parity(3)),
	}
}

// given answers how many sectors a group gives out.
func given(p api.Group, secs int) int {
	if p.Kind == api.Mirror {
		return secs - 16
	}
	return (secs - 16) * p.Wide
}

// taken answers what a block takes of a group, counted row by row.
func taken(p api.Group, size int) int {
	n := size
	if p.Kind == api.Parity {
		for i := 0; i < size; i += p.Wide - 1 {
			n++
		}
		n += n % 2
	}
	return n
}

// plain is a book told sector by sector: whether each of them is used, and where the stretch ends that was got last.
type plain struct {
	g    api.Geom
	used [][]bool
	ends []int
}

// bare answers a plain book of which all is free.
func bare(g api.Geom) *plain {
	p := &plain{g: g, ends: make([]int, len(g.Groups))}
	for _, x := range g.Groups {
		p.used = append(p.used, make([]bool, given(x, g.Secs)))
	}
	return p
}

// laid answers a plain book by a letter for each sector, x if it is used, and its ends, which may be left out.
func laid(g api.Geom, sectors []string, ends ...int) *plain {
	p := bare(g)
	for i, s := range sectors {
		if len(s) != len(p.used[i]) {
			panic("another number of sectors: " + s)
		}
		for at := range len(s) {
			p.used[i][at] = s[at] == 'x'
		}
	}
	copy(p.ends, ends)
	return p
}

func (p *plain) copy() *plain {
	c := &plain{g: p.g, ends: slices.Clone(p.ends)}
	for _, l := range p.used {
		c.used = append(c.used, slices.Clone(l))
	}
	return c
}

// all tells whether all sectors of a stretch that there is are used, or all are free.
func (p *plain) all(group, at, n int, used bool) bool {
	return !slices.Contains(p.used[group][at:at+n], !used)
}

func (p *plain) set(group, at, n int, used bool) {
	for i := range n {
		p.used[group][at+i] = used
	}
}

// count answers how many sectors of a group are used.
func (p *plain) count(group int) int {
	n := 0
	for _, used := range p.used[group] {
		if used {
			n++
		}
	}
	return n
}

// free answers how many sectors of a group are free.
func (p *plain) free(group int) int { return len(p.used[group]) - p.count(group) }

func (p *plain) left() int {
	n := 0
	for i := range p.used {
		n += p.free(i)
	}
	return n
}

// find tries one sector of a group after the other: those from where the last stretch ends, then all.
func (p *plain) find(group, n int) (int, bool) {
	for _, from := range []int{p.ends[group], 0} {
		for at := from; at+n <= len(p.used[group]); at++ {
			if p.all(group, at, n, false) {
				return at, true
			}
		}
	}
	return 0, false
}

// choose takes a place in one of some groups, the one with most sectors free first.
func (p *plain) choose(size int, of []int) (api.Place, bool) {
	of = slices.Clone(of)
	for len(of) > 0 {
		most := 0
		for i := range of {
			if p.free(of[i]) > p.free(of[most]) {
				most = i
			}
		}
		group := of[most]
		n := taken(p.g.Groups[group], size)
		if at, ok := p.find(group, n); ok {
			p.set(group, at, n, true)
			p.ends[group] = at + n
			return place(group, at), true
		}
		of = slices.Delete(of, most, most+1)
	}
	return api.Place{}, false
}

func (p *plain) get(size int, two bool) (api.Place, api.Place, api.Errno) {
	if size < 1 || size > 4 {
		return api.Place{}, api.Place{}, api.ErrArg
	}
	was := p.copy()
	var all, others []int
	for i := range p.used {
		all = append(all, i)
	}
	a, ok := p.choose(size, all)
	if !ok {
		return api.Place{}, api.Place{}, api.ErrSpace
	}
	if !two {
		return a, api.Place{}, api.OK
	}
	for _, i := range all {
		if i != a.Group {
			others = append(others, i)
		}
	}
	b, ok := p.choose(size, others)
	if !ok {
		b, ok = p.choose(size, []int{a.Group})
	}
	if !ok {
		*p = *was
		return api.Place{}, api.Place{}, api.ErrSpace
	}
	return a, b, api.OK
}

// put makes all sectors of a block's stretches used, or free, if all of them are the other thing; else the error is e.
func (p *plain) put(x api.Ptr, used bool, e api.Errno) api.Errno {
	if !ptr.Right(p.g, x) {
		return api.ErrArg
	}
	for _, at := range ptr.Places(x) {
		if !p.all(at.Group, at.At, taken(p.g.Groups[at.Group], x.Size), !used) {
			return e
		}
	}
	for _, at := range ptr.Places(x) {
		p.set(at.Group, at.At, taken(p.g.Groups[at.Group], x.Size), used)
	}
	return api.OK
}

func (p *plain) mark(x api.Ptr) api.Errno { return p.put(x, true, api.ErrUsed) }
func (p *plain) drop(x api.Ptr) api.Errno { return p.put(x, false, api.ErrNone) }

// made answers a new book.
func made(t *testing.T, g api.Geom) *Book {
	t.Helper()
	b, e := New(g)
	if e != api.OK || b == nil {
		t.Fatalf("New(%v) = %v, %d", g, b, e)
	}
	return b
}

func mark(t *testing.T, b *Book, p api.Ptr) {
	t.Helper()
	if e := b.Mark(p); e != api.OK {
		t.Fatalf("Mark(%v) = %d", p, e)
	}
}

func drop(t *testing.T, b *Book, p api.Ptr) {
	t.Helper()
	if e := b.Drop(p); e != api.OK {
		t.Fatalf("Drop(%v) = %d", p, e)
	}
}

// gets tells that Get answers these places.
func gets(t *testing.T, b *Book, size int, two bool, wantA, wantB api.Place, wantE api.Errno) {
	t.Helper()
	x, y, e := b.Get(size, two)
	if x != wantA || y != wantB || e != wantE {
		t.Fatalf("Get(%d, %t) = %v, %v, %d, want %v, %v, %d", size, two, x, y, e, wantA, wantB, wantE)
	}
}

// blocks answers blocks of one sector that take all of a group from a sector on, but the last one, where that is odd.
func blocks(g api.Geom, group, from int) []api.Ptr {
	var l []api.Ptr
	takes, all := taken(g.Groups[group], 1), given(g.Groups[group], g.Secs)
	for at := from; at+takes <= all; at += takes {
		l = append(l, block(group, at, 1))
	}
	return l
}

// fill marks all of these blocks, and empty drops them.
func fill(t *testing.T, b *Book, l []api.Ptr) {
	t.Helper()
	for _, x := range l {
		mark(t, b, x)
	}
}

func empty(t *testing.T, b *Book, l []api.Ptr) {
	t.Helper()
	for _, x := range l {
		drop(t, b, x)
	}
}

// lead brings a book of which all is free to where what Get took last of a group ends there: it is the only place that there is.
func lead(t *testing.T, b *Book, g api.Geom, group, end int) {
	t.Helper()
	var all []api.Ptr
	at := end - taken(g.Groups[group], 1)
	for i, p := range g.Groups {
		from := 0
		if i == group && end == given(p, g.Secs) {
			from = at % taken(p, 1)
		}
		all = append(all, blocks(g, i, from)...)
	}
	fill(t, b, all)
	drop(t, b, block(group, at, 1))
	gets(t, b, 1, false, place(group, at), api.Place{}, api.OK)
	empty(t, b, all)
}

// built answers a book as a plain one: first its ends, then its sectors. (Of a Parity these are used two by two, and an end is one that a Get can come to.)
func built(t *testing.T, p *plain) *Book {
	t.Helper()
	b := made(t, p.g)
	for group, end := range p.ends {
		if end > 0 {
			lead(t, b, p.g, group, end)
		}
	}
	for group := range p.used {
		takes := taken(p.g.Groups[group], 1)
		for at := 0; at < len(p.used[group]); at++ {
			if p.used[group][at] {
				mark(t, b, block(group, at, 1))
				at += takes - 1
			}
		}
	}
	return b
}

// counts tells that Left and Used are as of a plain book.
func counts(t *testing.T, b *Book, p *plain) {
	t.Helper()
	if b.Left() != p.left() {
		t.Fatalf("Left = %d, want %d", b.Left(), p.left())
	}
	for i := range p.used {
		if b.Used(i) != p.count(i) {
			t.Fatalf("Used(%d) = %d, want %d", i, b.Used(i), p.count(i))
		}
	}
}

// holds tells that a book is as a plain one: what is free, which stretches can be marked, and dropped, and what is got next.
func holds(t *testing.T, b *Book, p *plain) {
	t.Helper()
	counts(t, b, p)
	for group := range p.used {
		for at := range p.used[group] {
			probe(t, b, p, block(group, at, 1))
		}
	}
	for size := 1; size <= 4; size++ {
		for _, two := range []bool{false, true} {
			c := p.copy()
			x, y, e := c.get(size, two)
			gets(t, b.Copy(), size, two, x, y, e)
		}
	}
	counts(t, b, p)
}

// probe tells that a pointer is marked, and dropped, where a plain book's would be, and undoes it.
func probe(t *testing.T, b *Book, p *plain, x api.Ptr) {
	t.Helper()
	e, want := b.Mark(x), p.copy().mark(x)
	if e != want {
		t.Fatalf("Mark(%v) = %d, want %d", x, e, want)
	}
	if e == api.OK {
		drop(t, b, x)
	}
	e, want = b.Drop(x), p.copy().drop(x)
	if e != want {
		t.Fatalf("Drop(%v) = %d, want %d", x, e, want)
	}
	if e == api.OK {
		mark(t, b, x)
	}
}

// Promise 12.1: New of all kinds of measures, the least and the greatest among them: all is free.
func TestNew(t *testing.T) {
	l := append(measures(),
		measure(24, mirror(1)),
		measure(24, parity(3)),
		measure(4096, mirror(8)),
		measure(4096, parity(8)),
		measure(4096, parity(8), parity(8), parity(8), parity(8)),
		measure(4096, mirror(1), parity(3), mirror(8), parity(8)),
	)
	for _, g := range l {
		counts(t, made(t, g), bare(g))
	}
	for _, g := range measures() {
		holds(t, made(t, g), bare(g))
	}
	b := made(t, measure(40, mirror(2), parity(3)))
	if b.Left() != 24+72 || b.Used(0) != 0 || b.Used(1) != 0 {
		t.Errorf("Left, Used = %d, %d, %d", b.Left(), b.Used(0), b.Used(1))
	}
}

// Promise 12.1: New refuses each measure that isn't right.
func TestNewRefuses(t *testing.T) {
	for _, g := range wrong() {
		if b, e := New(g); b != nil || e != api.ErrArg {
			t.Errorf("New(%v) = %v, %d, want nil and ErrArg", g, b, e)
		}
	}
}

// Promise 12.1, rule 4: New leaves the list of groups as it is, spare room included, and doesn't keep it.
func TestNewKeepsNothing(t *testing.T) {
	room := []api.Group{mirror(2), parity(3), mirror(7), parity(8)}
	first := slices.Clone(room)
	b := made(t, api.Geom{Groups: room[:2], Secs: 24})
	gets(t, b, 3, true, place(1, 0), place(0, 0), api.OK)
	if !slices.Equal(room, first) {
		t.Errorf("the list is %v", room)
	}
	p := bare(measure(24, mirror(2), parity(3)))
	p.get(3, true)
	for i := range room {
		room[i] = mirror(1)
	}
	holds(t, b, p)
	c, e := b.Over(made(t, measure(24, mirror(2), parity(3))))
	if e != api.OK {
		t.Fatalf("Over = %d", e)
	}
	holds(t, c, p)
	holds(t, b.Copy(), p)
}

// Promise 12.1: two books of one measure are apart.
func TestBooksApart(t *testing.T) {
	g := measure(24, mirror(1), parity(3))
	a, b := made(t, g), made(t, g)
	gets(t, a, 4, true, place(1, 0), place(0, 0), api.OK)
	holds(t, b, bare(g))
	mark(t, b, block(1, 2, 1))
	p := bare(g)
	p.get(4, true)
	holds(t, a, p)
}

// Promise 12.1: the chapter's example.
func TestExample(t *testing.T) {
	for _, p := range groups() {
		b := made(t, measure(24, p, p))
		gets(t, b, 1, true, place(0, 0), place(1, 0), api.OK)
	}
}

// chosen is a book, as letters for sectors and as ends, a Get, and its answer.
type chosen struct {
	name    string
	g       api.Geom
	sectors []string
	ends    []int
	size    int
	two     bool
	a, b    api.Place
	e       api.Errno
}

// choices tells that each Get answers as told, and takes these places, or nothing.
func choices(t *testing.T, cases []chosen) {
	t.Helper()
	for _, c := range cases {
		t.Run(c.name, func(t *testing.T) {
			p := laid(c.g, c.sectors, c.ends...)
			b := built(t, p)
			holds(t, b, p)
			gets(t, b, c.size, c.two, c.a, c.b, c.e)
			if c.e == api.OK {
				p.set(c.a.Group, c.a.At, taken(c.g.Groups[c.a.Group], c.size), true)
				p.ends[c.a.Group] = c.a.At + taken(c.g.Groups[c.a.Group], c.size)
			}
			if c.e == api.OK && c.two {
				p.set(c.b.Group, c.b.At, taken(c.g.Groups[c.b.Group], c.size), true)
				p.ends[c.b.Group] = c.b.At + taken(c.g.Groups[c.b.Group], c.size)
			}
			holds(t, b, p)
		})
	}
}

const free8, full8 = "........", "xxxxxxxx"
const free24, full24 = "........................", "xxxxxxxxxxxxxxxxxxxxxxxx"

// Promise 12.1: which group is chosen for one place.
func TestGetGroup(t *testing.T) {
	one, two := measure(24, mirror(2)), measure(24, mirror(2), mirror(2))
	three, mixed := measure(24, mirror(1), mirror(1), mirror(1)), measure(24, mirror(2), parity(3))
	none := api.Place{}
	choices(t, []chosen{
		{"one group, the least block", one, []string{free8}, nil, 1, false, place(0, 0), none, api.OK},
		{"one group, the greatest block", one, []string{free8}, nil, 4, false, place(0, 0), none, api.OK},
		{"one group, all that is left", one, []string{"xxxx...."}, nil, 4, false, place(0, 4), none, api.OK},
		{"one group, too little is left", one, []string{"xxxxx..."}, nil, 4, false, none, none, api.ErrSpace},
		{"one group, enough is left, but in two stretches", one, []string{"...x...x"}, nil, 4, false, none, none, api.ErrSpace},
		{"one group, full", one, []string{full8}, nil, 1, false, none, none, api.ErrSpace},
		{"two alike: the first one", two, []string{free8, free8}, nil, 1, false, place(0, 0), none, api.OK},
		{"two alike, the first one less free", two, []string{"x.......", free8}, nil, 1, false, place(1, 0), none, api.OK},
		{"two alike, the second one less free", two, []string{free8, ".......x"}, nil, 1, false, place(0, 0), none, api.OK},
		{"two equally free, of unlike sectors", two, []string{"xxx.....", ".....xxx"}, nil, 1, false, place(0, 3), none, api.OK},
		{"most free, but not in one stretch", two, []string{".x.x.x.x", "xxxxxx.."}, nil, 2, false, place(1, 6), none, api.OK},
		{"most free, in one stretch of one sector", two, []string{".x.x.x.x", "xxxxxx.."}, nil, 1, false, place(0, 0), none, api.OK},
		{"most free, not in one stretch, in the second one", two, []string{"xxx..xxx", "x.x.x.x."}, nil, 2, false, place(0, 3), none, api.OK},
		{"in none of two", two, []string{".x.x.x.x", "x.x.x.x."}, nil, 2, false, none, none, api.ErrSpace},
		{"both full", two, []string{full8, full8}, nil, 1, false, none, none, api.ErrSpace},
		{"three: the second one most free", three, []string{"xx......", "x.......", "xxx....."}, nil, 2, false, place(1, 1), none, api.OK},
		{"three: the third one most free", three, []string{"xx......", "xxx.....", "......x."}, nil, 2, false, place(2, 0), none, api.OK},
		{"three: the last two equally free", three, []string{"xx......", "x.......", ".......x"}, nil, 2, false, place(1, 1), none, api.OK},
		{"three: not in the first two", three, []string{".x.x.x..", ".xx.xx..", "xxxxx..."}, nil, 3, false, place(2, 5), none, api.OK},
		{"three: the most free one fails, the other two equal", three, []string{"xxxx....", "..x..x..", "....xxxx"}, nil, 3, false, place(0, 4), none, api.OK},
		{"three: in the order of what is free, not of their numbers", three, []string{"xxxxx...", "..x..x..", "xxxx...."}, nil, 3, false, place(2, 4), none, api.OK},
		{"unlike ones: by sectors, not by blocks", mixed, []string{free8, free24}, nil, 4, false, place(1, 0), none, api.OK},
		{"unlike ones, equally free", mixed, []string{free8, "xxxxxxxxxxxxxxxx........"}, nil, 4, false, place(0, 0), none, api.OK},
		{"a block that takes more of the most free one than there is", mixed, []string{"xxxx....", "xxxxxxxxxxxxxx....xx..xx"}, nil, 3, false, place(0, 4), none, api.OK},
		{"a block that takes less of the next one", mixed, []string{"xxxx....", "xxxxxxxxxxxxxxxx....xx.."}, nil, 4, false, place(0, 4), none, api.OK},
		{"a block that fits nowhere, by the sector that is skipped", measure(25, parity(3)), []string{".....xxxxxxxxxxxxxxxxxxxxxx"}, nil, 3, false, none, none, api.ErrSpace},
		{"a Parity, from an odd sector on", mixed, []string{full8, ".xxxxxxxxxx......xxxxxx."}, nil, 3, false, place(1, 11), none, api.OK},
	})
}

// Promise 12.1: from which sector on a place is looked for.
func TestGetFrom(t *testing.T) {
	one, two := measure(24, mirror(2)), measure(24, mirror(1), mirror(2))
	mixed, none := measure(24, mirror(2), parity(3)), api.Place{}
	choices(t, []chosen{
		{"from the end on", one, []string{free8}, []int{3}, 2, false, place(0, 3), none, api.OK},
		{"from the end on, as much as is there", one, []string{free8}, []int{4}, 4, false, place(0, 4), none, api.OK},
		{"from the end on, less is there", one, []string{free8}, []int{5}, 4, false, place(0, 0), none, api.OK},
		{"the end is the group's", one, []string{free8}, []int{8}, 1, false, place(0, 0), none, api.OK},
		{"the end is the group's, what is first is used", one, []string{"xxx....."}, []int{8}, 1, false, place(0, 3), none, api.OK},
		{"the end is one ahead of the group's", one, []string{free8}, []int{7}, 1, false, place(0, 7), none, api.OK},
		{"behind the end is a used one", one, []string{"...xx..."}, []int{3}, 2, false, place(0, 5), none, api.OK},
		{"the end is amid used ones", one, []string{"..xxx..."}, []int{3}, 3, false, place(0, 5), none, api.OK},
		{"the end is amid free ones", one, []string{"x......x"}, []int{3}, 4, false, place(0, 3), none, api.OK},
		{"the end is amid free ones, too few behind it", one, []string{"x......x"}, []int{4}, 4, false, place(0, 1), none, api.OK},
		{"there is none behind, so from 0 on: the first, not the next", one, []string{"..x..x.x"}, []int{5}, 2, false, place(0, 0), none, api.OK},
		{"a great one ahead of the end, a small one behind it", one, []string{"....x.x."}, []int{4}, 1, false, place(0, 5), none, api.OK},
		{"there is none at all", one, []string{".x.x.x.x"}, []int{4}, 2, false, none, none, api.ErrSpace},
		{"another group's end is nothing to it", two, []string{free8, "x......."}, []int{0, 5}, 1, false, place(0, 0), none, api.OK},
		{"each group has an end of its own", two, []string{"x.......", free8}, []int{6, 3}, 1, false, place(1, 3), none, api.OK},
		{"the next group is looked through from its own end on", two, []string{".x.x.x.x", "x..x..xx"}, []int{6, 3}, 2, false, place(1, 4), none, api.OK},
		{"all of the group with most free, ahead of another one behind its end", two, []string{"..xxxxx.", "xxxxxx.."}, []int{2, 6}, 2, false, place(0, 0), none, api.OK},
		{"two places, both from the ends on", two, []string{free8, free8}, []int{3, 5}, 2, true, place(0, 3), place(1, 5), api.OK},
		{"two places of one group, from the end on", one, []string{free8}, []int{3}, 2, true, place(0, 3), place(0, 5), api.OK},
		{"two places of one group, the second one from 0 on", one, []string{free8}, []int{5}, 3, true, place(0, 5), place(0, 0), api.OK},
		{"two places of one group, both from 0 on", one, []string{free8}, []int{7}, 2, true, place(0, 0), place(0, 2), api.OK},
		{"two places of one group, the end amid free ones", one, []string{free8}, []int{2}, 3, true, place(0, 2), place(0, 5), api.OK},
		{"two places of one group, too few behind the first one", one, []string{free8}, []int{2}, 2, true, place(0, 2), place(0, 4), api.OK},
		{"a Parity, from the end on", mixed, []string{free8, free24}, []int{0, 10}, 3, false, place(1, 10), none, api.OK},
		{"a Parity, from an odd end on", mixed, []string{free8, free24}, []int{0, 11}, 3, false, place(1, 11), none, api.OK},
		{"a Parity, too few behind the end", mixed, []string{free8, free24}, []int{3, 20}, 3, true, place(1, 0), place(0, 3), api.OK},
	})
}

// Promise 12.1: which two places are chosen.
func TestGetTwo(t *testing.T) {
	one, two := measure(24, mirror(2)), measure(24, mirror(2), mirror(2))
	three, mixed := measure(24, mirror(1), mirror(1), mirror(1)), measure(24, mirror(2), parity(3))
	lone, none := measure(24, parity(3)), api.Place{}
	choices(t, []chosen{
		{"one group, twice of it", one, []string{free8}, nil, 1, true, place(0, 0), place(0, 1), api.OK},
		{"one group, twice of it, all of it", one, []string{free8}, nil, 4, true, place(0, 0), place(0, 4), api.OK},
		{"one group, the second one in another stretch", one, []string{"..xx..xx"}, nil, 2, true, place(0, 0), place(0, 4), api.OK},
		{"one group, no second one", one, []string{"xx......"}, nil, 4, true, none, none, api.ErrSpace},
		{"one group, no first one", one, []string{full8}, nil, 4, true, none, none, api.ErrSpace},
		{"one Parity, twice of it", lone, []string{free24}, nil, 3, true, place(0, 0), place(0, 6), api.OK},
		{"one Parity, no second one, by the sector that is skipped", measure(25, parity(3)), []string{".......xxxxxxxxxxxxxxxxxxxx"}, nil, 2, true, none, none, api.ErrSpace},
		{"two alike, one of each", two, []string{free8, free8}, nil, 4, true, place(0, 0), place(1, 0), api.OK},
		{"two alike, the second one more free", two, []string{"x.......", free8}, nil, 4, true, place(1, 0), place(0, 1), api.OK},
		{"the other one, however little is free of it", two, []string{free8, "xxxxxxx."}, nil, 1, true, place(0, 0), place(1, 7), api.OK},
		{"the first one's, as the other one is full", two, []string{free8, full8}, nil, 3, true, place(0, 0), place(0, 3), api.OK},
		{"the first one's, as the other one has no such stretch", two, []string{free8, "x..x..x."}, nil, 3, true, place(0, 0), place(0, 3), api.OK},
		{"the second group's, twice, as the first one is full", two, []string{full8, free8}, nil, 4, true, place(1, 0), place(1, 4), api.OK},
		{"the first one of the group less free, the other one having no such stretch", two, []string{".x.x.x.x", "xxxxx..."}, nil, 2, true, none, none, api.ErrSpace},
		{"both of the group less free", two, []string{".x.x.x.x", "xxxx...."}, nil, 2, true, place(1, 4), place(1, 6), api.OK},
		{"a first one, and none in either of both", two, []string{"...xxxxx", "xx..xxxx"}, nil, 3, true, none, none, api.ErrSpace},
		{"no first one of two", two, []string{".x.x.x.x", "x.x.x.x."}, nil, 2, true, none, none, api.ErrSpace},
		{"three: the two most free", three, []string{"xx......", "x.......", free8}, nil, 2, true, place(2, 0), place(1, 1), api.OK},
		{"three: of equal others the first one", three, []string{"x.......", free8, ".......x"}, nil, 2, true, place(1, 0), place(0, 1), api.OK},
		{"three, all equal", three, []string{free8, free8, free8}, nil, 2, true, place(0, 0), place(1, 0), api.OK},
		{"three: the second one has no such stretch", three, []string{free8, ".x.x.x..", "xxxxx..."}, nil, 3, true, place(0, 0), place(2, 5), api.OK},
		{"three: no other one has such a stretch", three, []string{free8, ".x.x.x..", "xxxxxx.."}, nil, 3, true, place(0, 0), place(0, 3), api.OK},
		{"three: the most free one has no such stretch", three, []string{"xxxx....", "..x..x..", "xxxxx..."}, nil, 3, true, place(0, 4), place(2, 5), api.OK},
		{"three: the most free one has none, and the last one neither", three, []string{"..x..x..", "xx......", "xxxxxx.."}, nil, 3, true, place(1, 2), place(1, 5), api.OK},
		{"unlike ones: the Parity first", mixed, []string{free8, free24}, nil, 3, true, place(1, 0), place(0, 0), api.OK},
		{"unlike ones: the Mirror first", mixed, []string{free8, "xxxxxxxxxxxxxxxxxx......"}, nil, 3, true, place(0, 0), place(1, 18), api.OK},
		{"unlike ones: the Mirror twice, as it takes less", mixed, []string{free8, "xxxxxxxxxxxxxxxxxxxx...."}, nil, 3, true, place(0, 0), place(0, 3), api.OK},
		{"unlike ones: the Parity twice", mixed, []string{full8, free24}, nil, 4, true, place(1, 0), place(1, 6), api.OK},
		{"unlike ones: no second one", mixed, []string{"xxx.....", "xxxxxxxxxxxxxxxxxxxx...."}, nil, 3, true, none, none, api.ErrSpace},
		{"unlike ones, both full", mixed, []string{full8, full24}, nil, 1, true, none, none, api.ErrSpace},
	})
}

// sizes: numbers that are no block's size.
var sizes = []int{0, -1, -4, 5, 6, 64, 1 << 32, 1<<32 + 1, math.MaxInt, math.MinInt, math.MinInt + 1}

// Promise 12.1: Get refuses each size that no block has, of an empty book, of a full one and of one between, and changes nothing.
func TestGetRefuses(t *testing.T) {
	g := measure(24, mirror(2), parity(3))
	for _, p := range []*plain{
		bare(g),
		laid(g, []string{"..xx..xx", "..xxxx..xx......xxxx...."}, 5, 7),
		laid(g, []string{full8, full24}, 8, 24),
	} {
		b := built(t, p)
		for _, size := range sizes {
			gets(t, b, size, false, api.Place{}, api.Place{}, api.ErrArg)
			gets(t, b, size, true, api.Place{}, api.Place{}, api.ErrArg)
		}
		holds(t, b, p)
	}
}

// Promise 12.1: what is marked, or dropped, and a Get that finds no place, or no second one, doesn't move where the next place is looked for.
func TestGetFromStays(t *testing.T) {
	g := measure(24, mirror(2))
	steps := map[string]func(b *Book){
		"a Mark": func(b *Book) { mark(t, b, block(0, 6, 2)) },
		"a Mark of two": func(b *Book) {
			mark(t, b, pair(place(0, 7), place(0, 6), 1))
		},
		"a Mark that is refused":   func(b *Book) { b.Mark(block(0, 2, 1)) },
		"a Drop":                   func(b *Book) { drop(t, b, block(0, 0, 1)) },
		"a Drop of the last one":   func(b *Book) { drop(t, b, block(0, 2, 1)) },
		"a Drop that is refused":   func(b *Book) { b.Drop(block(0, 7, 1)) },
		"a Get that is refused":    func(b *Book) { gets(t, b, 5, true, api.Place{}, api.Place{}, api.ErrArg) },
		"a Get without a second":   func(b *Book) { gets(t, b, 4, true, api.Place{}, api.Place{}, api.ErrSpace) },
		"a Get of a copy":          func(b *Book) { gets(t, b.Copy(), 1, true, place(0, 3), place(0, 4), api.OK) },
		"a Copy":                   func(b *Book) { b.Copy() },
		"a Drop, and what it took": func(b *Book) { drop(t, b, block(0, 0, 3)); mark(t, b, block(0, 0, 2)) },
	}
	for name, step := range steps {
		t.Run(name, func(t *testing.T) {
			b := made(t, g)
			for at := range 3 {
				gets(t, b, 1, false, place(0, at), api.Place{}, api.OK)
			}
			step(b)
			gets(t, b, 1, false, place(0, 3), api.Place{}, api.OK)
		})
	}
	b := made(t, g)
	gets(t, b, 3, false, place(0, 0), api.Place{}, api.OK)
	mark(t, b, block(0, 5, 1))
	mark(t, b, block(0, 7, 1))
	gets(t, b, 4, false, api.Place{}, api.Place{}, api.ErrSpace)
	gets(t, b, 1, false, place(0, 3), api.Place{}, api.OK)
	drop(t, b, block(0, 0, 4))
	gets(t, b, 1, false, place(0, 4), api.Place{}, api.OK)
	gets(t, b, 1, false, place(0, 6), api.Place{}, api.OK)
	gets(t, b, 1, false, place(0, 0), api.Place{}, api.OK)
}

// Promise 12.1: a Get that finds a first place, and no second one, leaves each group as it was, whichever one it took of.
func TestGetNoSecond(t *testing.T) {
	g := measure(24, mirror(1), mirror(2), parity(3))
	p := laid(g, []string{"..xx.x.x", "xxxxx...", "xxxxxxxxxxxxxxxxxxxx...."}, 4, 2, 11)
	b := built(t, p)
	for range 3 {
		gets(t, b, 3, true, api.Place{}, api.Place{}, api.ErrSpace)
		holds(t, b, p)
	}
	gets(t, b, 3, false, place(1, 5), api.Place{}, api.OK)
}

// Promise 12.1: a book that is filled by Gets has nothing more; behind a Drop that is got, and nothing else.
func TestFull(t *testing.T) {
	for _, g := range measures() {
		b, p := made(t, g), bare(g)
		var l []api.Place
		for {
			x, y, e := p.get(1, false)
			gets(t, b, 1, false, x, y, e)
			if e != api.OK {
				break
			}
			l = append(l, x)
		}
		holds(t, b, p)
		for i := range 4 {
			for size := 1; size <= 4; size++ {
				gets(t, b, size, false, api.Place{}, api.Place{}, api.ErrSpace)
				gets(t, b, size, true, api.Place{}, api.Place{}, api.ErrSpace)
			}
			was := l[(7*i+2)%len(l)]
			drop(t, b, block(was.Group, was.At, 1))
			p.drop(block(was.Group, was.At, 1))
			holds(t, b, p)
			gets(t, b, 1, true, api.Place{}, api.Place{}, api.ErrSpace)
			gets(t, b, 1, false, was, api.Place{}, api.OK)
			p.get(1, false)
			holds(t, b, p)
		}
	}
}

// change is a book, as letters for sectors, a pointer that is marked or dropped, the answer, and the book behind it.
type change struct {
	name string
	from []string
	x    api.Ptr
	e    api.Errno
	to   []string
}

// changed tells that a call answers what each change says, and that the book is behind it as that says.
func changed(t *testing.T, g api.Geom, cases []change, call func(b *Book, x api.Ptr) api.Errno) {
	t.Helper()
	for _, c := range cases {
		t.Run(c.name, func(t *testing.T) {
			b := built(t, laid(g, c.from, 3, 14))
			if e := call(b, c.x); e != c.e {
				t.Errorf("%v: %d, want %d", c.x, e, c.e)
			}
			holds(t, b, laid(g, c.to, 3, 14))
		})
	}
}

// Promise 12.2: Mark, of what is free, and of what isn't.
func TestMark(t *testing.T) {
	const some = "..xx..xxxx......xx......"
	same := func(name string, from []string, x api.Ptr) change {
		return change{name, from, x, api.ErrUsed, from}
	}
	changed(t, measure(24, mirror(2), parity(3)), []change{
		{"one place of a Mirror", []string{free8, free24}, block(0, 2, 3), api.OK, []string{"..xxx...", free24}},
		{"the first sectors of a Mirror", []string{free8, free24}, block(0, 0, 4), api.OK, []string{"xxxx....", free24}},
		{"the last sector of a Mirror", []string{free8, free24}, block(0, 7, 1), api.OK, []string{".......x", free24}},
		{"one place of a Parity, all that it takes", []string{free8, free24}, block(1, 3, 2), api.OK, []string{free8, "...xxxx................."}},
		{"the last sectors of a Parity", []string{free8, free24}, block(1, 18, 4), api.OK, []string{free8, "..................xxxxxx"}},
		{"between used ones", []string{"xx...xxx", free24}, block(0, 2, 3), api.OK, []string{full8, free24}},
		{"two places of two groups", []string{"x.......", some}, pair(place(1, 10), place(0, 1), 3), api.OK, []string{"xxxx....", "..xx..xxxxxxxxxxxx......"}},
		{"two places of two groups, the other way about", []string{"x.......", some}, pair(place(0, 1), place(1, 10), 3), api.OK, []string{"xxxx....", "..xx..xxxxxxxxxxxx......"}},
		{"two places of a Mirror, next to each other", []string{free8, some}, pair(place(0, 4), place(0, 1), 3), api.OK, []string{".xxxxxx.", some}},
		{"two places of a Parity", []string{free8, some}, pair(place(1, 0), place(1, 20), 1), api.OK, []string{free8, "xxxx..xxxx......xx..xx.."}},
		same("only the first sector is used", []string{"..x.....", free24}, block(0, 2, 3)),
		same("only the last sector is used", []string{"....x...", free24}, block(0, 2, 3)),
		same("only a sector amid it is used", []string{"...x....", free24}, block(0, 2, 3)),
		same("all of it is used", []string{full8, free24}, block(0, 2, 3)),
		same("of a Parity only a sector that is skipped, and the next one", []string{free8, "...............xx......."}, block(1, 12, 2)),
		same("only the first place is used, that of the first group", []string{"..xx....", free24}, pair(place(0, 2), place(1, 4), 2)),
		same("only the first place is used, that of the second group", []string{free8, "....xx.................."}, pair(place(1, 4), place(0, 2), 2)),
		same("only the second place is used, that of the second group", []string{free8, "....xx.................."}, pair(place(0, 2), place(1, 4), 2)),
		same("only the second place is used, that of the first group", []string{"..xx....", free24}, pair(place(1, 4), place(0, 2), 2)),
		same("only a sector of the second place is used", []string{"...x....", free24}, pair(place(1, 4), place(0, 2), 2)),
		same("both places are used", []string{"..xx....", "....xx.................."}, pair(place(0, 2), place(1, 4), 2)),
		same("of one group, only the first place is used", []string{"..xx....", free24}, pair(place(0, 2), place(0, 4), 2)),
		same("of one group, only the second place is used", []string{"....xx..", free24}, pair(place(0, 2), place(0, 4), 2)),
		same("of one Parity, only the second place is used", []string{free8, "......xx................"}, pair(place(1, 2), place(1, 6), 2)),
	}, (*Book).Mark)
}

// Promise 12.2: Drop, of what is used, and of what isn't.
func TestDrop(t *testing.T) {
	const some = "xx..xx....xxxxxx..xxxxxx"
	same := func(name string, from []string, x api.Ptr) change {
		return change{name, from, x, api.ErrNone, from}
	}
	changed(t, measure(24, mirror(2), parity(3)), []change{
		{"one place of a Mirror", []string{full8, full24}, block(0, 2, 3), api.OK, []string{"xx...xxx", full24}},
		{"the first sectors of a Mirror", []string{full8, full24}, block(0, 0, 4), api.OK, []string{"....xxxx", full24}},
		{"the last sector of a Mirror", []string{full8, full24}, block(0, 7, 1), api.OK, []string{"xxxxxxx.", full24}},
		{"one place of a Parity, all that it takes", []string{full8, full24}, block(1, 4, 2), api.OK, []string{full8, "xxxx....xxxxxxxxxxxxxxxx"}},
		{"the last sectors of a Parity", []string{full8, full24}, block(1, 18, 4), api.OK, []string{full8, "xxxxxxxxxxxxxxxxxx......"}},
		{"all that is used", []string{"..xxx...", free24}, block(0, 2, 3), api.OK, []string{free8, free24}},
		{"two places of two groups", []string{".xxxx...", some}, pair(place(1, 10), place(0, 1), 3), api.OK, []string{"....x...", "xx..xx............xxxxxx"}},
		{"two places of two groups, the other way about", []string{".xxxx...", some}, pair(place(0, 1), place(1, 10), 3), api.OK, []string{"....x...", "xx..xx............xxxxxx"}},
		{"two places of a Mirror, next to each other", []string{full8, some}, pair(place(0, 4), place(0, 1), 3), api.OK, []string{"x......x", some}},
		{"two places of a Parity", []string{full8, some}, pair(place(1, 0), place(1, 20), 1), api.OK, []string{full8, "....xx....xxxxxx..xx..xx"}},
		same("only the first sector is free", []string{"xx.xxxxx", full24}, block(0, 2, 3)),
		same("only the last sector is free", []string{"xxxx.xxx", full24}, block(0, 2, 3)),
		same("only a sector amid it is free", []string{"xxx.xxxx", full24}, block(0, 2, 3)),
		same("all of it is free", []string{free8, full24}, block(0, 2, 3)),
		same("of a Parity only a sector that is skipped, and the next one", []string{full8, ".xxxxxxxxxxxxxx..xxxxxx."}, block(1, 12, 2)),
		same("only the first place is free, that of the first group", []string{"xx..xxxx", full24}, pair(place(0, 2), place(1, 4), 2)),
		same("only the first place is free, that of the second group", []string{full8, "xxxx..xxxxxxxxxxxxxxxxxx"}, pair(place(1, 4), place(0, 2), 2)),
		same("only the second place is free, that of the second group", []string{full8, "xxxx..xxxxxxxxxxxxxxxxxx"}, pair(place(0, 2), place(1, 4), 2)),
		same("only the second place is free, that of the first group", []string{"xx..xxxx", full24}, pair(place(1, 4), place(0, 2), 2)),
		same("only a sector of the second place is free", []string{"xxx.xxxx", full24}, pair(place(1, 4), place(0, 2), 2)),
		same("both places are free", []string{"xx..xxxx", "xxxx..xxxxxxxxxxxxxxxxxx"}, pair(place(0, 2), place(1, 4), 2)),
		same("of one group, only the first place is free", []string{"xx..xxxx", full24}, pair(place(0, 2), place(0, 4), 2)),
		same("of one group, only the second place is free", []string{"xxxx..xx", full24}, pair(place(0, 2), place(0, 4), 2)),
		same("of one Parity, only the second place is free", []string{full8, "xxxxxx..xxxxxxxxxxxxxxxx"}, pair(place(1, 2), place(1, 6), 2)),
	}, (*Book).Drop)
}

// Promises 12.1 and 12.2: what was got isn't marked; what was got, or marked, is dropped, once, in whatever pieces.
func TestDropOnce(t *testing.T) {
	g := measure(24, mirror(2), parity(3))
	b, p := made(t, g), bare(g)
	gets(t, b, 3, true, place(1, 0), place(0, 0), api.OK)
	p.get(3, true)
	got := pair(place(1, 0), place(0, 0), 3)
	marked := pair(place(0, 4), place(1, 12), 2)
	mark(t, b, marked)
	p.mark(marked)
	for _, x := range []api.Ptr{got, marked, block(0, 2, 1), block(1, 5, 1), block(1, 12, 1)} {
		if e := b.Mark(x); e != api.ErrUsed {
			t.Errorf("Mark(%v) = %d", x, e)
		}
		holds(t, b, p)
	}
	for _, x := range []api.Ptr{got, marked} {
		drop(t, b, x)
		p.drop(x)
		holds(t, b, p)
		if e := b.Drop(x); e != api.ErrNone {
			t.Errorf("a second Drop(%v) = %d", x, e)
		}
		holds(t, b, p)
		mark(t, b, x)
		p.mark(x)
		holds(t, b, p)
	}
	for _, x := range []api.Ptr{block(0, 0, 2), block(0, 2, 1), block(1, 0, 1), block(1, 2, 2), block(0, 4, 2), block(1, 12, 2)} {
		drop(t, b, x)
		p.drop(x)
		holds(t, b, p)
	}
	if b.Left() != 8+24 {
		t.Errorf("Left = %d", b.Left())
	}
}

// wrongPtrs answers pointers that aren't right for a Mirror that gives out 8 sectors, and a Parity of 3 that gives out 24.
func wrongPtrs() []api.Ptr {
	ok, both := block(1, 4, 2), pair(place(1, 4), place(0, 2), 2)
	with := func(p api.Ptr, change func(p *api.Ptr)) api.Ptr { change(&p); return p }
	l := []api.Ptr{
		{},
		{Size: 1},
		{Birth: 1},
		with(ok, func(p *api.Ptr) { p.B = place(0, 2) }),
		with(ok, func(p *api.Ptr) { p.B = place(1, 0) }),
		with(ok, func(p *api.Ptr) { p.B = place(0, -1) }),
		pair(place(0, 2), place(0, 2), 2),
		pair(place(0, 2), place(0, 3), 2),
		pair(place(0, 3), place(0, 2), 2),
		pair(place(1, 4), place(1, 4), 2),
		pair(place(1, 4), place(1, 7), 2),
		pair(place(1, 7), place(1, 4), 2),
		pair(place(1, 4), place(1, 8), 4),
		pair(place(0, 0), place(0, 0), 1),
	}
	for _, p := range []api.Ptr{ok, both} {
		for _, n := range sizes {
			l = append(l, with(p, func(p *api.Ptr) { p.Size = n }))
		}
		for _, n := range []int{-1, 4, 256, math.MaxInt, math.MinInt} {
			l = append(l, with(p, func(p *api.Ptr) { p.Level = n }))
		}
		for _, n := range []int{0, -1, 1 << 32, math.MaxInt, math.MinInt} {
			l = append(l, with(p, func(p *api.Ptr) { p.Birth = n }))
		}
		for _, n := range []int{-1, 2, 3, 4, 1 << 32, math.MaxInt, math.MinInt} {
			l = append(l, with(p, func(p *api.Ptr) { p.A.Group = n }))
		}
		for _, n := range []int{-1, -2, 21, 23, 24, 25, 1 << 32, math.MaxInt, math.MaxInt - 3, math.MinInt} {
			l = append(l, with(p, func(p *api.Ptr) { p.A.At = n }))
		}
	}
	for _, n := range []int{-1, 2, 3, 4, 1 << 32, math.MaxInt, math.MinInt} {
		l = append(l, with(both, func(p *api.Ptr) { p.B.Group = n }))
	}
	for _, n := range []int{-1, -2, 7, 8, 9, 1 << 32, math.MaxInt, math.MaxInt - 1, math.MinInt} {
		l = append(l, with(both, func(p *api.Ptr) { p.B.At = n }))
	}
	return l
}

// Promise 12.2: Mark and Drop refuse each pointer that isn't right, of an empty book, a full one and one between, and change nothing.
func TestWrongPtrs(t *testing.T) {
	g := measure(24, mirror(2), parity(3))
	for _, p := range []*plain{
		bare(g),
		laid(g, []string{"..xx..xx", "..xxxx..xx......xxxx...."}, 5, 7),
		laid(g, []string{full8, full24}, 8, 24),
	} {
		b := built(t, p)
		for _, x := range wrongPtrs() {
			if e := b.Mark(x); e != api.ErrArg {
				t.Errorf("Mark(%v) = %d", x, e)
			}
			if e := b.Drop(x); e != api.ErrArg {
				t.Errorf("Drop(%v) = %d", x, e)
			}
		}
		holds(t, b, p)
	}
}

// Promise 12.2: a right pointer's Level, Birth and Sum say nothing about what it takes.
func TestMarkAnyBirth(t *testing.T) {
	g := measure(24, mirror(2), parity(3))
	b := made(t, g)
	x := pair(place(1, 4), place(0, 2), 2)
	for _, birth := range []int{1, 2, 1<<32 - 1} {
		for level := range 4 {
			y := x
			y.Birth, y.Level, y.Sum = birth, level, api.Sum{uint64(birth), 1 << 63, 0, uint64(level)}
			mark(t, b, y)
			if e := b.Mark(x); e != api.ErrUsed || b.Used(0) != 2 || b.Used(1) != 4 {
				t.Errorf("a second Mark = %d, Used = %d, %d", e, b.Used(0), b.Used(1))
			}
			drop(t, b, y)
		}
	}
	holds(t, b, bare(g))
}

// Promise 12.2: Used of a group that there isn't.
func TestUsedOfNone(t *testing.T) {
	for _, g := range []api.Geom{measure(24, mirror(2)), measure(24, mirror(2), parity(3)), measure(24, mirror(1), mirror(1), mirror(1), mirror(1))} {
		b := made(t, g)
		for i, p := range g.Groups {
			fill(t, b, blocks(g, i, 0))
			if b.Used(i) != given(p, g.Secs) {
				t.Errorf("Used(%d) = %d of %v", i, b.Used(i), g)
			}
		}
		for _, i := range []int{-1, -2, len(g.Groups), len(g.Groups) + 1, 4, 5, 1 << 32, math.MaxInt, math.MinInt} {
			if n := b.Used(i); n != 0 {
				t.Errorf("Used(%d) = %d of %v", i, n, g)
			}
		}
		if b.Left() != 0 {
			t.Errorf("Left = %d of %v", b.Left(), g)
		}
	}
}

// Promise 12.2: a copy is like its book, where the next place is looked for included, and apart from it, whichever of both is changed.
func TestCopy(t *testing.T) {
	g := measure(24, mirror(2), parity(3))
	const ahead, behind = "..xx..xx", "..xxxx..xx......xxxx...."
	// Each changes one of both, and a plain one alongside.
	steps := []func(b *Book, p *plain){
		func(b *Book, p *plain) { mark(t, b, block(0, 4, 2)); p.mark(block(0, 4, 2)) },
		func(b *Book, p *plain) { drop(t, b, block(1, 2, 1)); p.drop(block(1, 2, 1)) },
		func(b *Book, p *plain) {
			mark(t, b, pair(place(0, 0), place(1, 10), 2))
			p.mark(pair(place(0, 0), place(1, 10), 2))
		},
		func(b *Book, p *plain) {
			x, y, e := p.get(2, true)
			gets(t, b, 2, true, x, y, e)
		},
		func(b *Book, p *plain) {
			x, y, e := p.get(1, false)
			gets(t, b, 1, false, x, y, e)
		},
	}
	for _, first := range steps {
		for _, second := range steps {
			p := laid(g, []string{ahead, behind}, 5, 7)
			b := built(t, p)
			c, q := b.Copy(), p.copy()
			if c == b {
				t.Fatalf("the copy is the book itself")
			}
			holds(t, c, q)
			first(c, q)
			holds(t, b, p)
			holds(t, c, q)
			second(b, p)
			holds(t, b, p)
			holds(t, c, q)
		}
	}
}

// Promise 12.2: of a book and its copy the same places are got, to the last one.
func TestCopyGets(t *testing.T) {
	for _, g := range measures() {
		b := made(t, g)
		for i := range 3 {
			b.Get(1+i, i == 1)
		}
		c := b.Copy()
		for i := 0; ; i++ {
			size, two := 1+i%4, i%3 == 0
			x, y, e := b.Get(size, two)
			gets(t, c, size, two, x, y, e)
			if e != api.OK && size == 1 && !two {
				break
			}
		}
		if c.Left() != b.Left() {
			t.Errorf("Left = %d, %d of %v", b.Left(), c.Left(), g)
		}
	}
}

// over answers what a plain book over another one is: where the next place is looked for is the first one's.
func (p *plain) over(q *plain) *plain {
	c := p.copy()
	for i := range c.used {
		for at, used := range q.used[i] {
			c.used[i][at] = c.used[i][at] || used
		}
	}
	return c
}

// lies tells that a book over another one is as of plain ones, and that the two are as they were.
func lies(t *testing.T, b, c *Book, p, q *plain) *Book {
	t.Helper()
	o, e := b.Over(c)
	if e != api.OK || o == nil || o == b || o == c {
		t.Fatalf("Over = %v, %d", o, e)
	}
	holds(t, o, p.over(q))
	holds(t, b, p)
	holds(t, c, q)
	return o
}

// Promise 12.2: a book over another one, over itself, and over an empty one, and apart from both.
func TestOver(t *testing.T) {
	g := measure(24, mirror(2), parity(3))
	l := []*plain{
		bare(g),
		laid(g, []string{full8, full24}),
		laid(g, []string{"x.x.x.x.", "xx..xx..xx..xx..xx..xx.."}, 3, 5),
		laid(g, []string{".x.x.x.x", "..xx..xx..xx..xx..xx..xx"}, 8, 24),
		laid(g, []string{"..xx..xx", ".xx..xxxx......xxxx....."}, 6, 0),
		laid(g, []string{"xxxx....", free24}, 0, 9),
		laid(g, []string{free8, "......xxxxxxxxxxxx......"}, 1, 2),
		laid(g, []string{".xxxxxx.", "xx....................xx"}, 7, 22),
	}
	for _, p := range l {
		for _, q := range l {
			b, c := built(t, p), built(t, q)
			o := lies(t, b, c, p, q)
			lies(t, b, b, p, p)
			// What is changed of the one isn't seen in the others.
			both := p.over(q)
			x, y, e := both.get(1, true)
			gets(t, o, 1, true, x, y, e)
			holds(t, b, p)
			holds(t, c, q)
			fillRest(t, b, p)
			fillRest(t, c, q)
			holds(t, o, both)
		}
	}
}

// fillRest gets all blocks of one sector that there are.
func fillRest(t *testing.T, b *Book, p *plain) {
	t.Helper()
	for e := api.OK; e == api.OK; {
		_, _, e = b.Get(1, false)
	}
	if b.Left() > p.left() {
		t.Fatalf("Left = %d, and was %d", b.Left(), p.left())
	}
}

// Promise 12.2: Over, of all kinds of measures.
func TestOverMeasures(t *testing.T) {
	for _, g := range measures() {
		b, p := made(t, g), bare(g)
		c, q := made(t, g), bare(g)
		for i := range 3 {
			x, y, e := p.get(1+i, true)
			gets(t, b, 1+i, true, x, y, e)
			x, y, e = q.get(3-i, i == 0)
			gets(t, c, 3-i, i == 0, x, y, e)
		}
		lies(t, b, c, p, q)
		lies(t, c, b, q, p)
		lies(t, b, made(t, g), p, bare(g))
		lies(t, made(t, g), b, bare(g), p)
	}
}

// Promise 12.2: Over refuses nil, and a book of another measure, and changes neither.
func TestOverRefuses(t *testing.T) {
	l := []api.Geom{
		measure(24, mirror(2), parity(3)),
		measure(25, mirror(2), parity(3)),
		measure(24, mirror(3), parity(3)),
		measure(24, mirror(2), parity(4)),
		measure(24, parity(3), mirror(2)),
		measure(24, mirror(2), mirror(3)),
		measure(24, parity(3), parity(3)),
		measure(24, mirror(2)),
		measure(24, parity(3)),
		measure(24, mirror(2), parity(3), mirror(2)),
		measure(24, mirror(2), parity(3), parity(3)),
		measure(40, mirror(1)),
	}
	for i, g := range l {
		for k, h := range l {
			b, p := made(t, g), bare(g)
			c, q := made(t, h), bare(h)
			p.get(3, true)
			b.Get(3, true)
			q.get(2, true)
			c.Get(2, true)
			o, e := b.Over(c)
			if i == k && (e != api.OK || o == nil) || i != k && (e != api.ErrArg || o != nil) {
				t.Errorf("%v over %v: %v, %d", g, h, o, e)
			}
			holds(t, b, p)
			holds(t, c, q)
		}
		b, p := made(t, g), bare(g)
		if o, e := b.Over(nil); o != nil || e != api.ErrArg {
			t.Errorf("over nil: %v, %d", o, e)
		}
		holds(t, b, p)
	}
}

// Promises 12.1 and 12.2: each call of nil.
func TestNil(t *testing.T) {
	var b *Book
	for size := -1; size <= 5; size++ {
		gets(t, b, size, false, api.Place{}, api.Place{}, api.ErrArg)
		gets(t, b, size, true, api.Place{}, api.Place{}, api.ErrArg)
	}
	for _, x := range append(wrongPtrs(), block(0, 0, 1), pair(place(0, 0), place(1, 0), 1)) {
		if b.Mark(x) != api.ErrArg || b.Drop(x) != api.ErrArg {
			t.Errorf("Mark, Drop of %v = %d, %d", x, b.Mark(x), b.Drop(x))
		}
	}
	if b.Left() != 0 || b.Used(-1) != 0 || b.Used(0) != 0 || b.Used(1) != 0 || b.Copy() != nil {
		t.Errorf("Left, Used, Copy = %d, %d, %d, %d, %v", b.Left(), b.Used(-1), b.Used(0), b.Used(1), b.Copy())
	}
	for _, c := range []*Book{nil, made(t, measure(24, mirror(2)))} {
		if o, e := b.Over(c); o != nil || e != api.ErrArg {
			t.Errorf("Over = %v, %d", o, e)
		}
	}
}

// numbers answers a function that answers numbers from 0 to below what it is asked, the same ones each time the tests run.
func numbers(seed uint64) func(below int) int {
	x := seed*2654435761 + 1
	return func(below int) int {
		x = x*6364136223846793005 + 1442695040888963407
		return int(x >> 33 % uint64(below))
	}
}

// Promise 12.1: all books of one least Mirror, with all ends: each Get answers as sectors told one by one.
func TestAllOfOne(t *testing.T) {
	g := measure(24, mirror(1))
	for end := range 9 {
		for bits := range 256 {
			p := bare(g)
			p.ends[0] = end
			for at := range 8 {
				p.used[0][at] = bits>>at&1 == 1
			}
			holds(t, built(t, p), p)
		}
	}
}

// Promise 12.1: books of two and of three groups, used as it comes, with all kinds of ends: each Get answers as sectors told one by one.
func TestManyOfSome(t *testing.T) {
	l := []api.Geom{measure(24, mirror(1), mirror(2)), measure(24, mirror(1), parity(3)), measure(24, parity(4), parity(3)), measure(25, mirror(2), parity(3), mirror(1))}
	for i, g := range l {
		next := numbers(uint64(i))
		for range 300 {
			p := bare(g)
			for group, x := range g.Groups {
				takes := taken(x, 1)
				dense := 2 + next(5)
				for at := 0; at+takes <= len(p.used[group]); at++ {
					if next(dense) > 0 {
						p.set(group, at, takes, true)
						at += takes - 1
					}
				}
				if next(3) > 0 {
					p.ends[group] = takes + next(len(p.used[group])-takes+1)
				}
			}
			holds(t, built(t, p), p)
		}
	}
}

// Promises 12.1 to 12.3: a long course of all that befalls a book, of all kinds of measures, answers as sectors told one by one.
func TestCourse(t *testing.T) {
	l := append(measures(), measure(300, parity(7), mirror(4), parity(3), mirror(1)), measure(4096, mirror(2), parity(8)))
	for i, g := range l {
		small := g.Secs < 100
		b, p := made(t, g), bare(g)
		next := numbers(uint64(i + 7))
		pointer := func() api.Ptr {
			spot := func() api.Place {
				group := next(len(g.Groups))
				// Of great groups the first sectors only, so that blocks meet.
				return place(group, next(min(len(p.used[group]), 200)+2)-1)
			}
			x := api.Ptr{A: spot(), Size: next(6), Birth: 1}
			if next(3) == 0 {
				x.Two, x.B = true, spot()
			}
			return x
		}
		var got []api.Ptr
		for step := range 150 {
			switch next(6) {
			case 0, 1, 2:
				size, two := 1+next(4), next(2) == 0
				x, y, e := p.get(size, two)
				gets(t, b, size, two, x, y, e)
				if e == api.OK {
					got = append(got, api.Ptr{A: x, B: y, Two: two, Size: size, Birth: 1})
				}
			case 3:
				x := pointer()
				if e, want := b.Mark(x), p.mark(x); e != want {
					t.Fatalf("of %v, step %d: Mark(%v) = %d, want %d", g, step, x, e, want)
				}
			case 4:
				x := pointer()
				if e, want := b.Drop(x), p.drop(x); e != want {
					t.Fatalf("of %v, step %d: Drop(%v) = %d, want %d", g, step, x, e, want)
				}
			case 5:
				// It may be gone in pieces.
				if len(got) > 0 {
					k := next(len(got))
					if e, want := b.Drop(got[k]), p.drop(got[k]); e != want {
						t.Fatalf("of %v, step %d: Drop(%v) = %d, want %d", g, step, got[k], e, want)
					}
					got = slices.Delete(got, k, k+1)
				}
			}
			counts(t, b, p)
			if small && step%10 == 0 {
				holds(t, b, p)
			}
		}
	}
}

// Promise 12.3: what is got till nothing is left are right pointers' places, no two of which have a column, or a sector of their stretches, in common; dropped, all of it is free again.
func TestGotIsOnesOwn(t *testing.T) {
	l := append(measures(), measure(100, parity(8), mirror(2), parity(3), mirror(8)))
	for _, g := range l {
		for first := range 4 {
			gotOnce(t, g, first)
		}
	}
}

// gotOnce gets blocks of sizes in turn till there is no room for any, and drops them in another order.
func gotOnce(t *testing.T, g api.Geom, first int) {
	t.Helper()
	b := made(t, g)
	whole := b.Left()
	held := map[api.Col]bool{}
	sectors := bare(g)
	var got []api.Ptr
	for i, none := first, 0; none < 8; i++ {
		size, two := 1+i%4, i/4%2 == 0
		x, y, e := b.Get(size, two)
		if e == api.ErrSpace {
			none++
			continue
		}
		none = 0
		p := api.Ptr{A: x, B: y, Two: two, Size: size, Birth: 1}
		if e != api.OK || !ptr.Right(g, p) {
			t.Fatalf("of %v: Get(%d, %t) = %v, %v, %d", g, size, two, x, y, e)
		}
		if e := sectors.mark(p); e != api.OK {
			t.Fatalf("of %v: %v was got, and is used", g, p)
		}
		for _, at := range ptr.Places(p) {
			hold(t, g, at, size, held)
		}
		got = append(got, p)
		counts(t, b, sectors)
	}
	// Every other one first, then the rest from the last one on.
	for i := 0; i < len(got); i += 2 {
		drop(t, b, got[i])
		sectors.drop(got[i])
		counts(t, b, sectors)
	}
	for i := (len(got)/2)*2 - 1; i > 0; i -= 2 {
		drop(t, b, got[i])
		sectors.drop(got[i])
		counts(t, b, sectors)
	}
	if b.Left() != whole {
		t.Errorf("of %v: Left = %d, want %d", g, b.Left(), whole)
	}
	for _, p := range got {
		mark(t, b, p)
	}
}

// hold tells that a block's columns were no one's yet.
func hold(t *testing.T, g api.Geom, at api.Place, size int, held map[api.Col]bool) {
	t.Helper()
	l, e := cols.Of(g, at, size)
	if e != api.OK {
		t.Fatalf("of %v: no columns at %v, %d", g, at, size)
	}
	for _, c := range l {
		sector := api.Col{Dev: c.Dev, At: c.At}
		if held[sector] {
			t.Fatalf("of %v: %v is two blocks'", g, sector)
		}
		held[sector] = true
	}
}

// Promises 12.1 and 12.3: the greatest book, filled to the last sector, and emptied.
func TestGreatest(t *testing.T) {
	g := measure(4096, parity(8), mirror(8), parity(8), mirror(1))
	b := made(t, g)
	whole := 4080 * (8 + 1 + 8 + 1)
	if b.Left() != whole {
		t.Fatalf("Left = %d, want %d", b.Left(), whole)
	}
	var got []api.Ptr
	left := whole
	for {
		x, y, e := b.Get(4, true)
		if e != api.OK {
			break
		}
		p := pair(x, y, 4)
		if !ptr.Right(g, p) {
			t.Fatalf("%v isn't right", p)
		}
		for _, at := range ptr.Places(p) {
			left -= taken(g.Groups[at.Group], 4)
		}
		got = append(got, p)
		if b.Left() != left {
			t.Fatalf("Left = %d, want %d", b.Left(), left)
		}
	}
	if left >= 12 {
		t.Errorf("%d sectors are left", left)
	}
	for _, p := range got {
		drop(t, b, p)
	}
	if b.Left() != whole {
		t.Errorf("Left = %d, want %d", b.Left(), whole)
	}
}
