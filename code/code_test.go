package code

import (
	"math"
	"slices"
	"strings"
	"testing"

	"polder/api"
	"polder/cols"
	"polder/geom"
)

// mirror and parity answer a group of so many devices.
func mirror(wide int) api.Group { return api.Group{Kind: api.Mirror, Wide: wide} }
func parity(wide int) api.Group { return api.Group{Kind: api.Parity, Wide: wide} }

// measure answers a measure of these groups.
func measure(secs int, l ...api.Group) api.Geom { return api.Geom{Groups: l, Secs: secs} }

// place answers a place.
func place(group, at int) api.Place { return api.Place{Group: group, At: at} }

// full answers a sector full of a byte.
func full(b byte) string { return strings.Repeat(string([]byte{b}), 64) }

// fulls answers a sector for each byte of s.
func fulls(s string) []string {
	var l []string
	for i := range len(s) {
		l = append(l, full(s[i]))
	}
	return l
}

// text answers a block's text of so many sectors, no two bytes at the same place of two sectors alike.
func text(seed, size int) string {
	var b []byte
	for i := range size {
		for k := range 64 {
			b = append(b, byte(seed+i*37+k*5+k*k))
		}
	}
	return string(b)
}

// spoil answers a sector with its last byte changed, as little as can be.
func spoil(s string) string { return s[:63] + string([]byte{s[63] ^ 1}) }

// mixed answers sectors, at each place the bytes made one.
func mixed(l []string) string {
	b := make([]byte, 64)
	for _, s := range l {
		for i := range b {
			b[i] ^= s[i]
		}
	}
	return string(b)
}

// groups answers all groups that are right.
func groups() []api.Group {
	var l []api.Group
	for wide := 1; wide <= 8; wide++ {
		l = append(l, mirror(wide))
	}
	for wide := 3; wide <= 8; wide++ {
		l = append(l, parity(wide))
	}
	return l
}

// measures answers measures that have each right group, alone and among others.
func measures() []api.Geom {
	var l []api.Geom
	for _, p := range groups() {
		l = append(l, measure(24, p), measure(25, mirror(3), p, parity(4)))
	}
	return l
}

// block is a block of a measure.
type block struct {
	g    api.Geom
	p    api.Place
	size int
}

// blocks goes through all blocks that the measures have room for.
func blocks(yield func(b block)) {
	for _, g := range measures() {
		for group := range g.Groups {
			for size := 1; size <= 4; size++ {
				for at := range geom.Sectors(g, group) - geom.Takes(g, group, size) + 1 {
					yield(block{g, place(group, at), size})
				}
			}
		}
	}
}

// fewBlocks goes through a block of each size, from each device of each right group on, with others ahead of the group.
func fewBlocks(yield func(b block)) {
	for _, p := range groups() {
		g := measure(24, parity(3), mirror(2), p)
		for size := 1; size <= 4; size++ {
			for at := range min(p.Wide, geom.Sectors(g, 2)-geom.Takes(g, 2, size)+1) {
				yield(block{g, place(2, at), size})
			}
		}
	}
}

// columns answers a block's columns.
func (b block) columns(t *testing.T) []api.Col {
	t.Helper()
	l, e := cols.Of(b.g, b.p, b.size)
	if e != api.OK {
		t.Fatalf("%v has no columns: %d", b, e)
	}
	return l
}

// mirrored tells whether a block is a Mirror's.
func (b block) mirrored() bool { return b.g.Groups[b.p.Group].Kind == api.Mirror }

// devices answers all devices of a block's group.
func (b block) devices() []int {
	var l []int
	for i := range b.g.Groups[b.p.Group].Wide {
		l = append(l, geom.First(b.g, b.p.Group)+i)
	}
	return l
}

// encoded answers a text's columns' texts, and fails if there are none.
func (b block) encoded(t *testing.T, s string) []string {
	t.Helper()
	l, e := Encode(b.g, b.p, s)
	if e != api.OK {
		t.Fatalf("Encode of %v = %d", b, e)
	}
	return l
}

// laid answers what a text's columns' texts are to be, by the chapter's words: each of the block's sectors where layer 6 says it is held.
func (b block) laid(t *testing.T, s string) []string {
	l := b.columns(t)
	texts := make([]string, len(l))
	rows := make([][]string, 4)
	for i := range b.size {
		held, _ := cols.Data(b.g, b.p, b.size, i)
		for _, c := range held {
			texts[slices.Index(l, c)] = s[64*i : 64*i+64]
			rows[c.Row] = append(rows[c.Row], s[64*i:64*i+64])
		}
	}
	for k, c := range l {
		if c.Par {
			texts[k] = mixed(rows[c.Row])
		}
	}
	return texts
}

// try is one of the tries.
type try struct {
	dev  int
	text string
}

// devsOf answers what tries are told by.
func devsOf(l []try) []int {
	var devs []int
	for _, x := range l {
		devs = append(devs, x.dev)
	}
	return devs
}

// textsOf answers what tries come to.
func textsOf(l []try) []string {
	var texts []string
	for _, x := range l {
		texts = append(texts, x.text)
	}
	return texts
}

// tries answers all tries.
func (b block) tries(got []string) []try {
	var l []try
	for dev, s := range Tries(b.g, b.p, b.size, got) {
		l = append(l, try{dev, s})
	}
	return l
}

// expected answers what the tries are to be, by the chapter's words.
func (b block) expected(t *testing.T, got []string) []try {
	l := b.columns(t)
	var all []try
	take := func(dev int, parts []string) {
		if !slices.Contains(parts, "") {
			all = append(all, try{dev, strings.Join(parts, "")})
		}
	}
	if b.mirrored() {
		for _, dev := range b.devices() {
			var parts []string
			for k, c := range l {
				if c.Dev == dev {
					parts = append(parts, got[k])
				}
			}
			take(dev, parts)
		}
		return all
	}
	for _, dev := range append([]int{-1}, b.devices()...) {
		var parts []string
		has := dev == -1
		for i := range b.size {
			held, _ := cols.Data(b.g, b.p, b.size, i)
			part := got[slices.Index(l, held[0])]
			if held[0].Dev == dev {
				has = true
				part = othersMixed(l, got, held[0])
			}
			parts = append(parts, part)
		}
		if has {
			take(dev, parts)
		}
	}
	return all
}

// othersMixed answers what a column must be by the others of its row; nothing, if one of them is missing.
func othersMixed(l []api.Col, got []string, lost api.Col) string {
	var others []string
	for k, c := range l {
		if c.Row == lost.Row && c != lost {
			others = append(others, got[k])
		}
	}
	if slices.Contains(others, "") {
		return ""
	}
	return mixed(others)
}

// agrees fails if the tries aren't those that are expected.
func (b block) agrees(t *testing.T, got []string) {
	t.Helper()
	if l, want := b.tries(got), b.expected(t, got); !slices.Equal(l, want) {
		t.Fatalf("Tries of %v, of %q = %v, want %v", b, got, devsOf(l), devsOf(want))
	}
}

// wrongNumbers: numbers that are never a group's, a size or a place's, those by which a sum or a product would wrap among them.
var wrongNumbers = []int{math.MinInt, math.MinInt + 1, math.MinInt / 64, -1 << 58, -1 << 32, -1 << 31, -4096, -64, -24, -16, -8, -4, -2, -1, 32641, 1 << 31, 1 << 32, 1<<32 + 1, 1 << 58, 1<<58 + 1, 1 << 62, math.MaxInt - 16, math.MaxInt - 4, math.MaxInt - 1, math.MaxInt}

// wrongMeasures: measures that aren't right.
func wrongMeasures() []api.Geom {
	return []api.Geom{
		{},
		measure(40),
		{Groups: []api.Group{}, Secs: 40},
		measure(40, mirror(0)),
		measure(40, mirror(9)),
		measure(40, mirror(-1)),
		measure(40, mirror(math.MaxInt)),
		measure(40, parity(0)),
		measure(40, parity(1)),
		measure(40, parity(2)),
		measure(40, parity(9)),
		measure(40, parity(math.MinInt)),
		measure(40, api.Group{Kind: 2, Wide: 3}),
		measure(40, api.Group{Kind: -1, Wide: 3}),
		measure(40, mirror(2), parity(2)),
		measure(40, slices.Repeat([]api.Group{mirror(2)}, 5)...),
		measure(0, mirror(2)),
		measure(16, parity(3)),
		measure(23, mirror(2)),
		measure(4097, parity(3)),
		measure(-1, mirror(1)),
		measure(math.MaxInt, mirror(1)),
	}
}

// misplaced goes through blocks that there aren't: of a wrong measure, group, place, and so of any size.
func misplaced(yield func(b block)) {
	for size := 1; size <= 4; size++ {
		for _, g := range wrongMeasures() {
			for _, group := range []int{-1, 0, 1, 4} {
				yield(block{g, place(group, 0), size})
			}
		}
		g := measure(24, mirror(2), parity(3))
		for _, group := range append([]int{2, 3, 4, 5}, wrongNumbers...) {
			yield(block{g, place(group, 0), size})
		}
		for group := range 2 {
			last := geom.Sectors(g, group) - geom.Takes(g, group, size)
			for _, at := range append([]int{last + 1, last + 2, geom.Sectors(g, group)}, wrongNumbers...) {
				yield(block{g, place(group, at), size})
			}
		}
	}
}

// refused fails if anything is answered of columns that don't fit.
func (b block) refused(t *testing.T, got []string) {
	t.Helper()
	if Fits(b.g, b.p, b.size, got) {
		t.Errorf("Fits(%v, %q) = true", b, got)
	}
	tries := Tries(b.g, b.p, b.size, got)
	if tries == nil {
		t.Fatalf("Tries(%v, %q) = nil", b, got)
	}
	for range 2 {
		for dev := range tries {
			t.Errorf("Tries(%v, %q) has %d", b, got, dev)
		}
	}
	if b.size < 0 || b.size > 64 {
		return
	}
	if l := Bad(b.g, b.p, text(1, b.size), got); len(l) != 0 {
		t.Errorf("Bad(%v, %q) = %v", b, got, l)
	}
}

// Promise 7.1: Encode, column by column: both kinds, at their fewest and most devices and sectors, a row that is full and one of what is left.
func TestEncode(t *testing.T) {
	cases := []struct {
		g       api.Geom
		p       api.Place
		s, want string
	}{
		{measure(24, mirror(1)), place(0, 0), "a", "a"},
		{measure(24, mirror(1)), place(0, 4), "abcd", "abcd"},
		{measure(24, mirror(2)), place(0, 7), "a", "aa"},
		{measure(40, parity(3), mirror(3)), place(1, 2), "abc", "abcabcabc"},
		{measure(24, mirror(8)), place(0, 3), "a", "aaaaaaaa"},
		{measure(24, mirror(8)), place(0, 3), "abcd", "abcdabcdabcdabcdabcdabcdabcdabcd"},
		// Of one data column the parity is the same.
		{measure(24, parity(3)), place(0, 0), "a", "aa"},
		{measure(24, parity(3)), place(0, 1), "ab", "\x03ab"},
		{measure(24, parity(3)), place(0, 4), "abd", "\x03abdd"},
		{measure(24, parity(3)), place(0, 18), "abch", "\x03ab\x0bch"},
		{measure(24, mirror(2), parity(4)), place(1, 2), "abch", "`abchh"},
		{measure(24, parity(5)), place(0, 34), "abch", "\x08abch"},
		{measure(24, parity(8)), place(0, 62), "a", "aa"},
		{measure(4096, mirror(8), parity(8), mirror(8), parity(8)), place(3, 32634), "abch", "\x08abch"},
	}
	for _, c := range cases {
		l, e := Encode(c.g, c.p, strings.Join(fulls(c.s), ""))
		if e != api.OK || !slices.Equal(l, fulls(c.want)) {
			t.Errorf("Encode(%v, %v, %q) = %q, %d, want %q", c.g, c.p, c.s, l, e, c.want)
		}
	}
}

// Promise 7.1: Encode, of all blocks of all groups, no two sectors of which are alike.
func TestEncodeAll(t *testing.T) {
	blocks(func(b block) {
		s := text(b.p.At, b.size)
		if l, want := b.encoded(t, s), b.laid(t, s); !slices.Equal(l, want) {
			t.Fatalf("Encode of %v = %q, want %q", b, l, want)
		}
	})
}

// Promise 7.1: ErrArg of what isn't a block's text: no bytes, no whole sectors, more than MaxBlock of them.
func TestEncodeWrongTexts(t *testing.T) {
	for _, g := range measures() {
		for group := range g.Groups {
			for _, n := range []int{0, 1, 4, 32, 63, 65, 127, 129, 191, 193, 255, 257, 319, 320, 321, 384, 512, 64 * 64, 1 << 16} {
				s := strings.Repeat("a", n)
				if l, e := Encode(g, place(group, 0), s); e != api.ErrArg || len(l) != 0 {
					t.Errorf("Encode(%v, %d, %d bytes) = %q, %d, want ErrArg", g, group, n, l, e)
				}
			}
		}
	}
}

// Promise 7.1: ErrArg where layer 6 has no columns.
func TestEncodeWrongPlaces(t *testing.T) {
	misplaced(func(b block) {
		if l, e := Encode(b.g, b.p, text(0, b.size)); e != api.ErrArg || len(l) != 0 {
			t.Errorf("Encode of %v = %q, %d, want ErrArg", b, l, e)
		}
	})
}

// Promise 7.1: Fits, of columns all there, one or all of them missing, whatever they have; of all blocks.
func TestFits(t *testing.T) {
	blocks(func(b block) {
		n := len(b.columns(t))
		got := slices.Repeat([]string{full('x')}, n)
		if !Fits(b.g, b.p, b.size, got) {
			t.Fatalf("Fits(%v) = false", b)
		}
		for k := range got {
			got[k] = ""
			if !Fits(b.g, b.p, b.size, got) {
				t.Fatalf("Fits(%v) without %d = false", b, k)
			}
			got[k] = full('y')
		}
		if !Fits(b.g, b.p, b.size, make([]string, n)) {
			t.Fatalf("Fits(%v) of none that could be read = false", b)
		}
	})
}

// Promises 7.1, 7.2: fewer and more columns than there are don't fit; nothing is tried, nothing is bad.
func TestWrongCounts(t *testing.T) {
	fewBlocks(func(b block) {
		l := b.encoded(t, text(1, b.size))
		b.refused(t, nil)
		b.refused(t, []string{})
		b.refused(t, l[1:])
		b.refused(t, l[:len(l)-1])
		b.refused(t, append(slices.Clone(l), ""))
		b.refused(t, append(slices.Clone(l), l[0]))
		b.refused(t, slices.Concat(l, l))
		b.refused(t, make([]string, len(l)+1))
		b.refused(t, make([]string, len(l)-1))
	})
}

// Promises 7.1, 7.2: a column is nothing or 64 bytes, wherever it stands.
func TestWrongColumns(t *testing.T) {
	fewBlocks(func(b block) {
		l := b.encoded(t, text(1, b.size))
		for k := range l {
			for _, n := range []int{1, 32, 63, 65, 128, 256} {
				got := slices.Clone(l)
				got[k] = strings.Repeat("a", n)
				b.refused(t, got)
				// Not even if the others are missing, so that they aren't uneven.
				got = make([]string, len(l))
				got[k] = strings.Repeat("a", n)
				b.refused(t, got)
			}
		}
		for _, n := range []int{1, 63, 65} {
			b.refused(t, slices.Repeat([]string{strings.Repeat("a", n)}, len(l)))
		}
	})
}

// Promises 7.1, 7.2: a size of 0, one beyond MaxBlock, and others that aren't any.
func TestWrongSizes(t *testing.T) {
	for _, p := range groups() {
		for _, size := range append([]int{0, 5, 6, 7, 8, 64}, wrongNumbers...) {
			b := block{measure(24, p), place(0, 0), size}
			for n := range 12 {
				b.refused(t, fulls(strings.Repeat("a", n)))
				b.refused(t, make([]string, n))
			}
		}
	}
}

// Promises 7.1, 7.2: where layer 6 has no columns, nothing fits, however many there are.
func TestWrongPlaces(t *testing.T) {
	misplaced(func(b block) {
		for n := range 9 {
			b.refused(t, fulls(strings.Repeat("a", n)))
		}
		b.refused(t, make([]string, b.size))
	})
}

// Promise 7.2: Tries, the chapter's example: of two sectors one missing, by whichever there is one try.
func TestTriesExample(t *testing.T) {
	b := block{measure(24, parity(3)), place(0, 1), 2}
	s := text(3, 2)
	// Behind the parity, the data is on the devices 2 and 0.
	for i, dev := range []int{2, 0} {
		got := b.encoded(t, s)
		got[i+1] = ""
		if l := b.tries(got); !slices.Equal(l, []try{{dev, s}}) {
			t.Errorf("Tries without sector %d = those of %v: %q", i, devsOf(l), textsOf(l))
		}
	}
}

// Promise 7.2: Tries, by hand: what is there, missing and spoilt, and by what each try is told.
func TestTries(t *testing.T) {
	m := measure(24, mirror(3))
	one, eight := measure(24, mirror(1)), measure(24, parity(3), mirror(8))
	three, four := measure(24, parity(3)), measure(24, mirror(2), parity(4))
	wide := measure(24, parity(8))
	cases := []struct {
		b    block
		got  string // a point: missing
		devs []int
		want []string
	}{
		{block{one, place(0, 0), 1}, "a", []int{0}, []string{"a"}},
		{block{one, place(0, 0), 1}, ".", nil, nil},
		{block{one, place(0, 4), 4}, "abcd", []int{0}, []string{"abcd"}},
		{block{one, place(0, 4), 4}, "abc.", nil, nil},
		{block{m, place(0, 1), 2}, "abcdef", []int{0, 1, 2}, []string{"ab", "cd", "ef"}},
		{block{m, place(0, 1), 2}, ".bcdef", []int{1, 2}, []string{"cd", "ef"}},
		{block{m, place(0, 1), 2}, "abc.ef", []int{0, 2}, []string{"ab", "ef"}},
		{block{m, place(0, 1), 2}, "a..de.", nil, nil},
		{block{m, place(0, 1), 2}, "......", nil, nil},
		// Alike ones are tried all the same.
		{block{m, place(0, 1), 2}, "ababab", []int{0, 1, 2}, []string{"ab", "ab", "ab"}},
		{block{eight, place(1, 7), 1}, "ab.d.fgh", []int{3, 4, 6, 8, 9, 10}, []string{"a", "b", "d", "f", "g", "h"}},
		// One data column, and its parity.
		{block{three, place(0, 0), 1}, "xa", []int{-1, 1}, []string{"a", "x"}},
		{block{three, place(0, 0), 1}, ".a", []int{-1}, []string{"a"}},
		{block{three, place(0, 0), 1}, "x.", []int{1}, []string{"x"}},
		{block{three, place(0, 0), 1}, "..", nil, nil},
		// A full row, on the devices 1 (the parity), 2 and 0: told rising, whatever the columns' order.
		{block{three, place(0, 1), 2}, "\x03ab", []int{-1, 0, 2}, []string{"ab", "ab", "ab"}},
		{block{three, place(0, 1), 2}, "\x03ac", []int{-1, 0, 2}, []string{"ac", "ab", "`c"}},
		{block{three, place(0, 1), 2}, ".ab", []int{-1}, []string{"ab"}},
		{block{three, place(0, 1), 2}, "\x03.b", []int{2}, []string{"ab"}},
		{block{three, place(0, 1), 2}, "\x03a.", []int{0}, []string{"ab"}},
		{block{three, place(0, 1), 2}, "\x03..", nil, nil},
		{block{three, place(0, 1), 2}, "..b", nil, nil},
		{block{three, place(0, 1), 2}, "...", nil, nil},
		// Two rows, the second of what is left: the parities on device 0, the data on 1, 2, and 1.
		{block{three, place(0, 0), 3}, "\x03abdd", []int{-1, 1, 2}, []string{"abd", "abd", "abd"}},
		{block{three, place(0, 0), 3}, "\x03azxd", []int{-1, 1, 2}, []string{"azd", "yzx", "abd"}},
		{block{three, place(0, 0), 3}, "\x03.bd.", []int{1}, []string{"abd"}},
		{block{three, place(0, 0), 3}, "\x03.bdd", []int{1}, []string{"abd"}},
		{block{three, place(0, 0), 3}, "\x03abd.", []int{1}, []string{"abd"}},
		// The device 2 has none of the second row, whose parity isn't asked for.
		{block{three, place(0, 0), 3}, "\x03a..d", []int{2}, []string{"abd"}},
		{block{three, place(0, 0), 3}, "\x03ab.d", []int{-1, 2}, []string{"abd", "abd"}},
		{block{three, place(0, 0), 3}, ".abdd", []int{-1}, []string{"abd"}},
		{block{three, place(0, 0), 3}, ".ab.d", []int{-1}, []string{"abd"}},
		{block{three, place(0, 0), 3}, ".abd.", nil, nil},
		{block{three, place(0, 0), 3}, "\x03a.d.", nil, nil},
		// Of a group behind others devices are numbered on: the parity on 4, the data on 5, 2, 3, and, behind a parity, 5.
		{block{four, place(1, 2), 4}, "`abchh", []int{-1, 2, 3, 5}, []string{"abch", "abch", "abch", "abch"}},
		{block{four, place(1, 2), 4}, "`a.chh", []int{2}, []string{"abch"}},
		{block{four, place(1, 2), 4}, "`.bch.", []int{5}, []string{"abch"}},
		{block{four, place(1, 2), 4}, "`a.ch.", nil, nil},
		{block{four, place(1, 2), 4}, "`ab..h", []int{3}, []string{"abch"}},
		{block{wide, place(0, 5), 4}, "\x08abch", []int{-1, 0, 1, 6, 7}, []string{"abch", "abch", "abch", "abch", "abch"}},
		{block{wide, place(0, 5), 4}, "\x08ab.h", []int{0}, []string{"abch"}},
		{block{wide, place(0, 7), 1}, "xa", []int{-1, 0}, []string{"a", "x"}},
	}
	for _, c := range cases {
		got := fulls(c.got)
		for k := range got {
			if c.got[k] == '.' {
				got[k] = ""
			}
		}
		var want []try
		for i, s := range c.want {
			want = append(want, try{c.devs[i], strings.Join(fulls(s), "")})
		}
		if l := c.b.tries(got); !slices.Equal(l, want) {
			t.Errorf("Tries of %v, of %q = those of %v: %q, want those of %v: %q", c.b, c.got, devsOf(l), textsOf(l), c.devs, c.want)
		}
	}
}

// Promise 7.2: Tries, of columns of any bytes, with each choice of them missing (of a Mirror of many: each choice of a sector of each device).
func TestTriesAll(t *testing.T) {
	fewBlocks(func(b block) {
		l := b.columns(t)
		whole := make([]string, len(l))
		for k := range l {
			whole[k] = text(k*19+b.p.At, 1)
		}
		each := len(l)
		if each > 8 {
			each = len(b.devices())
		}
		for missing := range 1 << each {
			got := slices.Clone(whole)
			for i := range each {
				if missing>>i&1 == 1 {
					got[i*(len(l)/each)+i%(len(l)/each)] = ""
				}
			}
			b.agrees(t, got)
		}
	})
}

// Promise 7.2: Tries, of all blocks: with all columns there, with each one missing in turn, each one spoilt in turn, and none there.
func TestTriesOneMissing(t *testing.T) {
	blocks(func(b block) {
		whole := b.encoded(t, text(b.p.At, b.size))
		b.agrees(t, whole)
		for k := range whole {
			got := slices.Clone(whole)
			got[k] = ""
			b.agrees(t, got)
			got[k] = spoil(whole[k])
			b.agrees(t, got)
		}
		none := make([]string, len(whole))
		if l := b.tries(none); len(l) != 0 {
			t.Fatalf("Tries of %v, of none there = those of %v", b, devsOf(l))
		}
	})
}

// Promise 7.2: with all columns there, all tries are the text: of a Mirror one for each device, of a Parity the first told by -1, and one for each device with data.
func TestTriesOfWholeBlocks(t *testing.T) {
	blocks(func(b block) {
		s := text(b.p.At+5, b.size)
		l := b.tries(b.encoded(t, s))
		var want []int
		if !b.mirrored() {
			want = append(want, -1)
		}
		data := slices.DeleteFunc(b.columns(t), func(c api.Col) bool { return c.Par })
		if want = append(want, cols.Devs(data)...); !slices.Equal(devsOf(l), want) {
			t.Fatalf("Tries of %v: %v, want %v", b, devsOf(l), want)
		}
		for _, x := range l {
			if x.text != s {
				t.Fatalf("Tries of %v: by %d another text", b, x.dev)
			}
		}
	})
}

// Promise 7.2: more columns of a row missing than there is parity for: no try.
func TestTriesTooFew(t *testing.T) {
	fewBlocks(func(b block) {
		if b.mirrored() {
			return
		}
		l, whole := b.columns(t), b.encoded(t, text(2, b.size))
		for i := range l {
			for k := range i {
				if l[i].Row != l[k].Row {
					continue
				}
				got := slices.Clone(whole)
				got[i], got[k] = "", ""
				if x := b.tries(got); len(x) != 0 {
					t.Fatalf("Tries of %v without %d and %d: %v", b, k, i, devsOf(x))
				}
			}
		}
	})
}

// Promise 7.2: whatever number of tries is taken, no further one is handed out.
func TestTriesTakenInPart(t *testing.T) {
	fewBlocks(func(b block) {
		got := b.encoded(t, text(4, b.size))
		got[0] = spoil(got[0])
		all := b.expected(t, got)
		tries := Tries(b.g, b.p, b.size, got)
		for n := 1; n <= len(all); n++ {
			var l []try
			tries(func(dev int, s string) bool {
				l = append(l, try{dev, s})
				return len(l) < n
			})
			if !slices.Equal(l, all[:n]) {
				t.Fatalf("the first %d tries of %v: %v", n, b, devsOf(l))
			}
		}
		for dev, s := range tries {
			if all[0] != (try{dev, s}) {
				t.Fatalf("the first try of %v: %d", b, dev)
			}
			break
		}
	})
}

// Promise 7.2: tries that are gone through twice, and within each other, are the same.
func TestTriesTwice(t *testing.T) {
	fewBlocks(func(b block) {
		got := b.encoded(t, text(4, b.size))
		got[len(got)-1] = ""
		all := b.expected(t, got)
		tries := Tries(b.g, b.p, b.size, got)
		for range 2 {
			var outer []try
			for dev, s := range tries {
				outer = append(outer, try{dev, s})
				var inner []try
				for dev, s := range tries {
					inner = append(inner, try{dev, s})
				}
				if !slices.Equal(inner, all) {
					t.Fatalf("tries of %v within tries: %v", b, devsOf(inner))
				}
			}
			if !slices.Equal(outer, all) {
				t.Fatalf("tries of %v again: %v", b, devsOf(outer))
			}
		}
	})
}

// Promise 7.2: what is written into what was handed in, behind the call, isn't seen by the tries, not even between two of them.
func TestTriesKeepNothing(t *testing.T) {
	fewBlocks(func(b block) {
		b.g.Groups = slices.Clone(b.g.Groups)
		got := b.encoded(t, text(6, b.size))
		all := b.expected(t, got)
		change := func(s string) {
			for k := range got {
				got[k] = s
			}
			for k := range b.g.Groups {
				b.g.Groups[k] = api.Group{Kind: 7, Wide: -1}
			}
		}
		tries := Tries(b.g, b.p, b.size, got)
		for _, s := range []string{"", full('z'), "z"} {
			var l []try
			change(s)
			for dev, s := range tries {
				l = append(l, try{dev, s})
				change("y")
			}
			if !slices.Equal(l, all) {
				t.Fatalf("Tries of %v, of columns that were changed: %v", b, devsOf(l))
			}
		}
	})
}

// Promise 7.2: Bad, by hand.
func TestBad(t *testing.T) {
	cases := []struct {
		g      api.Geom
		p      api.Place
		s, got string // a point: missing
		want   []int
	}{
		{measure(24, mirror(1)), place(0, 0), "a", "a", nil},
		{measure(24, mirror(1)), place(0, 0), "a", "b", []int{0}},
		{measure(24, mirror(1)), place(0, 0), "a", ".", []int{0}},
		{measure(24, mirror(2)), place(0, 0), "ab", "abab", nil},
		{measure(24, mirror(2)), place(0, 0), "ab", "ba.b", []int{0, 1, 2}},
		{measure(24, parity(3)), place(0, 4), "abd", "\x03abdd", nil},
		{measure(24, parity(3)), place(0, 4), "abd", "\x03.bdx", []int{1, 4}},
		{measure(24, parity(3)), place(0, 4), "abd", ".abxd", []int{0, 3}},
		// The parity fits what was read, not the text.
		{measure(24, parity(3)), place(0, 4), "abd", "\x00bbdd", []int{0, 1}},
		{measure(24, parity(3)), place(0, 4), "abd", ".....", []int{0, 1, 2, 3, 4}},
		{measure(24, parity(8)), place(0, 60), "a", "aa", nil},
		{measure(24, parity(8)), place(0, 60), "a", "ba", []int{0}},
	}
	for _, c := range cases {
		got := fulls(c.got)
		for k := range got {
			if c.got[k] == '.' {
				got[k] = ""
			}
		}
		if l := Bad(c.g, c.p, strings.Join(fulls(c.s), ""), got); !slices.Equal(l, c.want) {
			t.Errorf("Bad(%v, %v, %q, %q) = %v, want %v", c.g, c.p, c.s, c.got, l, c.want)
		}
	}
}

// Promise 7.2: Bad, of all blocks: none of those encoded; each one, and each two, that are spoilt by a bit or missing; all of none there.
func TestBadAll(t *testing.T) {
	blocks(func(b block) {
		s := text(b.p.At, b.size)
		whole := b.encoded(t, s)
		holds := func(got []string, want ...int) {
			if l := Bad(b.g, b.p, s, got); !slices.Equal(l, want) {
				t.Fatalf("Bad of %v = %v, want %v", b, l, want)
			}
		}
		holds(whole)
		for k := range whole {
			got := slices.Clone(whole)
			got[k] = ""
			holds(got, k)
			got[k] = spoil(whole[k])
			holds(got, k)
			got[0] = ""
			holds(got, slices.Compact([]int{0, k})...)
		}
		var every []int
		for k := range whole {
			every = append(every, k)
		}
		holds(make([]string, len(whole)), every...)
	})
}

// Promise 7.2: Bad, nothing of what is no block's text, nor of one of another size than the columns.
func TestBadOfWrongTexts(t *testing.T) {
	fewBlocks(func(b block) {
		for _, n := range []int{0, 1, 63, 65, 127, 255, 257, 320, 1 << 12} {
			for _, got := range [][]string{nil, make([]string, len(b.columns(t))), b.encoded(t, text(1, b.size)), make([]string, n/64)} {
				if l := Bad(b.g, b.p, strings.Repeat("a", n), got); len(l) != 0 {
					t.Fatalf("Bad of %v, of %d bytes = %v", b, n, l)
				}
			}
		}
		for size := 1; size <= 4; size++ {
			if l := Bad(b.g, b.p, text(9, size), b.encoded(t, text(1, b.size))); size != b.size && len(l) != 0 {
				t.Fatalf("Bad of %v, of %d sectors = %v", b, size, l)
			}
		}
	})
}

// harmed goes through what may befall a device's columns: they are missing, spoilt, full of another byte, another block's, or some of them only.
func (b block) harmed(t *testing.T, whole []string, devs []int, yield func(got []string)) {
	l, other := b.columns(t), b.encoded(t, text(77, b.size))
	kinds := []func(k int) string{
		func(k int) string { return "" },
		func(k int) string { return spoil(whole[k]) },
		func(k int) string { return full('A') },
		func(k int) string { return other[k] },
		func(k int) string { return []string{"", spoil(whole[k])}[l[k].Row%2] },
		func(k int) string { return []string{spoil(whole[k]), ""}[l[k].Row%2] },
		func(k int) string { return []string{whole[k], ""}[l[k].Row%2] },
		func(k int) string { return []string{full(0), whole[k]}[l[k].Row%2] },
	}
	for _, kind := range kinds {
		got := slices.Clone(whole)
		for k, c := range l {
			if slices.Contains(devs, c.Dev) {
				got[k] = kind(k)
			}
		}
		yield(got)
	}
}

// Promise 7.3: of a Parity, with each one device's columns spoilt or missing in turn, the text is among the tries: told by the device, if it has data, else by -1.
func TestParityIsMadeAgain(t *testing.T) {
	blocks(func(b block) {
		if b.mirrored() {
			return
		}
		s := text(b.p.At, b.size)
		whole, l := b.encoded(t, s), b.columns(t)
		for _, dev := range b.devices() {
			told := -1
			if slices.ContainsFunc(l, func(c api.Col) bool { return c.Dev == dev && !c.Par }) {
				told = dev
			}
			b.harmed(t, whole, []int{dev}, func(got []string) {
				if !slices.Contains(b.tries(got), try{told, s}) {
					t.Fatalf("%v isn't among the tries without device %d", b, dev)
				}
			})
		}
	})
}

// Promise 7.3: of a Mirror, with one device's columns right, each in turn, and all others spoilt or missing, the text is among the tries, told by it.
func TestMirrorIsRead(t *testing.T) {
	blocks(func(b block) {
		if !b.mirrored() {
			return
		}
		s := text(b.p.At, b.size)
		whole := b.encoded(t, s)
		for _, dev := range b.devices() {
			others := slices.DeleteFunc(b.devices(), func(d int) bool { return d == dev })
			b.harmed(t, whole, others, func(got []string) {
				if !slices.Contains(b.tries(got), try{dev, s}) {
					t.Fatalf("%v isn't among the tries, though device %d is right", b, dev)
				}
			})
			b.harmed(t, whole, []int{dev}, func(got []string) {
				for _, other := range others {
					if !slices.Contains(b.tries(got), try{other, s}) {
						t.Fatalf("%v isn't among the tries, though device %d is right", b, other)
					}
				}
			})
		}
	})
}

// Rules 3, 4: what is handed in isn't changed, spare room included; what is handed out is new memory.
func TestNothingIsChanged(t *testing.T) {
	fewBlocks(func(b block) {
		s := text(8, b.size)
		one, two := b.encoded(t, s), b.encoded(t, s)
		for k := range one {
			one[k] = "x"
		}
		if !slices.Equal(two, b.laid(t, s)) {
			t.Fatalf("two answers of Encode of %v share memory", b)
		}
		room := append(slices.Clone(two), "spare", "room")
		room[0] = ""
		was := slices.Clone(room)
		groups := append(slices.Clone(b.g.Groups), api.Group{Kind: 5, Wide: 5})
		given := slices.Clone(groups)
		b.g.Groups = groups[:len(groups)-1]
		got := room[:len(two)]
		Fits(b.g, b.p, b.size, got)
		b.tries(got)
		bad := Bad(b.g, b.p, s, got)
		bad[0] = 99
		if l := Bad(b.g, b.p, s, got); !slices.Equal(l, []int{0}) {
			t.Fatalf("Bad of %v again = %v", b, l)
		}
		if _, e := Encode(b.g, b.p, s); e != api.OK || !slices.Equal(room, was) || !slices.Equal(groups, given) {
			t.Fatalf("%v: %q has become %q, %v has become %v", b, was, room, given, groups)
		}
	})
}
