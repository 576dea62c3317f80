package ptr

import (
	"math"
	"slices"
	"strings"
	"testing"

	"polder/api"
	"polder/fletch"
)

const great = 1<<32 - 1

// mirror and parity answer a group of so many devices.
func mirror(wide int) api.Group { return api.Group{Kind: api.Mirror, Wide: wide} }
func parity(wide int) api.Group { return api.Group{Kind: api.Parity, Wide: wide} }

// measure answers a measure of these groups.
func measure(secs int, l ...api.Group) api.Geom { return api.Geom{Groups: l, Secs: secs} }

// place answers a place.
func place(group, at int) api.Place { return api.Place{Group: group, At: at} }

// groups answers all groups that are right.
func groups() []api.Group {
	var l []api.Group
	for wide := 1; wide <= 8; wide++ {
		l = append(l, mirror(wide))
	}
	for wide := 3; wide <= 8; wide++ {
		l = append(l, parity(wide))
	}
	return l
}

// wrong answers measures that aren't right.
func wrong() []api.Geom {
	return []api.Geom{
		{},
		{Secs: 40},
		measure(40, mirror(0)),
		measure(40, mirror(-1)),
		measure(40, mirror(9)),
		measure(40, mirror(math.MaxInt)),
		measure(40, parity(2)),
		measure(40, parity(9)),
		measure(40, parity(math.MinInt)),
		measure(40, api.Group{Kind: 2, Wide: 3}),
		measure(40, api.Group{Kind: -1, Wide: 3}),
		measure(40, mirror(2), parity(3), parity(2)),
		measure(40, mirror(2), parity(3), mirror(0)),
		measure(40, mirror(1), parity(3), mirror(1), mirror(1), mirror(1)),
		measure(23, mirror(2), parity(3)),
		measure(0, mirror(2), parity(3)),
		measure(-40, mirror(2), parity(3)),
		measure(4097, mirror(2), parity(3)),
		measure(math.MaxInt, mirror(2), parity(3)),
		measure(math.MinInt, mirror(2), parity(3)),
	}
}

// two answers a measure of a Mirror, which gives out 24 sectors, and a Parity, which gives out 72.
func two() api.Geom { return measure(40, mirror(2), parity(3)) }

// one answers a pointer that is right for two, all of whose fields are unlike zero, and unlike each other.
func one() api.Ptr {
	return api.Ptr{
		A:     place(1, 6),
		B:     place(1, 20),
		Two:   true,
		Size:  3,
		Level: 2,
		Birth: 700,
		Sum:   api.Sum{11, 12, 13, 1 << 63},
	}
}

// field is one of a pointer's small numbers.
type field struct {
	name string
	most int // the greatest that can be laid
	of   func(p *api.Ptr) *int
}

// fields answers all of them.
func fields() []field {
	return []field{
		{"A.Group", great, func(p *api.Ptr) *int { return &p.A.Group }},
		{"A.At", great, func(p *api.Ptr) *int { return &p.A.At }},
		{"B.Group", great, func(p *api.Ptr) *int { return &p.B.Group }},
		{"B.At", great, func(p *api.Ptr) *int { return &p.B.At }},
		{"Size", 255, func(p *api.Ptr) *int { return &p.Size }},
		{"Level", 255, func(p *api.Ptr) *int { return &p.Level }},
		{"Birth", great, func(p *api.Ptr) *int { return &p.Birth }},
	}
}

// with answers a pointer, one number of which is another one.
func (f field) with(p api.Ptr, n int) api.Ptr {
	*f.of(&p) = n
	return p
}

// others answers pointers, each unlike p in one of its fields alone.
func others(p api.Ptr) []api.Ptr {
	var l []api.Ptr
	for _, f := range fields() {
		n := *f.of(&p)
		for _, v := range []int{0, 1, 2, 255, f.most, n ^ 1, n ^ 128} {
			if v != n {
				l = append(l, f.with(p, v))
			}
		}
	}
	for i := range p.Sum {
		for bit := range 64 {
			q := p
			q.Sum[i] ^= 1 << bit
			l = append(l, q)
		}
	}
	q := p
	q.Two = !p.Two
	return append(l, q)
}

// Promise 9.1: None, of a pointer that is zero, and of no other one: not of one with Size 0, nor of one with Two alone.
func TestNone(t *testing.T) {
	if !None(api.Ptr{}) {
		t.Errorf("zero isn't none")
	}
	if None(one()) {
		t.Errorf("%v is none", one())
	}
	for _, p := range others(api.Ptr{}) {
		if None(p) {
			t.Errorf("%v is none", p)
		}
	}
	for _, f := range fields() {
		for _, n := range []int{-1, math.MinInt, math.MaxInt} {
			if p := f.with(api.Ptr{}, n); None(p) {
				t.Errorf("%v is none", p)
			}
		}
	}
}

// Promise 9.1: Places, at none, with Two and without, be the pointer right or not.
func TestPlaces(t *testing.T) {
	cases := []struct {
		p    api.Ptr
		want []api.Place
	}{
		{api.Ptr{}, nil},
		{one(), []api.Place{place(1, 6), place(1, 20)}},
		{api.Ptr{A: place(1, 6), Size: 3, Birth: 7}, []api.Place{place(1, 6)}},
		{api.Ptr{Size: 1, Birth: 1}, []api.Place{place(0, 0)}},
		{api.Ptr{Birth: 1}, []api.Place{place(0, 0)}},
		{api.Ptr{Size: 1}, []api.Place{place(0, 0)}},
		{api.Ptr{Level: 1}, []api.Place{place(0, 0)}},
		{api.Ptr{Sum: api.Sum{0, 0, 0, 1}}, []api.Place{place(0, 0)}},
		{api.Ptr{A: place(0, 5)}, []api.Place{place(0, 5)}},
		{api.Ptr{Two: true}, []api.Place{place(0, 0), place(0, 0)}},
		{api.Ptr{A: place(2, 5), B: place(0, 9), Two: true, Size: 4, Birth: 2}, []api.Place{place(2, 5), place(0, 9)}},
		{api.Ptr{A: place(2, 5), B: place(2, 5), Two: true, Size: 4, Birth: 2}, []api.Place{place(2, 5), place(2, 5)}},
		{api.Ptr{A: place(2, 5), B: place(3, 1), Size: 4, Birth: 2}, []api.Place{place(2, 5)}},
		{api.Ptr{B: place(0, 3)}, []api.Place{place(0, 0)}},
		{api.Ptr{A: place(-1, math.MinInt), B: place(math.MaxInt, -7), Two: true, Size: -1}, []api.Place{place(-1, math.MinInt), place(math.MaxInt, -7)}},
	}
	for _, c := range cases {
		if l := Places(c.p); !slices.Equal(l, c.want) {
			t.Errorf("Places(%v) = %v, want %v", c.p, l, c.want)
		}
	}
}

// Promise 9.1, rule 4: Places answers new memory, spare room included.
func TestPlacesAreNew(t *testing.T) {
	for _, p := range []api.Ptr{one(), {A: place(1, 6), Size: 3, Birth: 7}} {
		want := slices.Clone(Places(p))
		l := Places(p)
		other := Places(p)
		for i := range l[:cap(l)] {
			l[:cap(l)][i] = place(9, 9)
		}
		if !slices.Equal(other, want) || !slices.Equal(Places(p), want) {
			t.Errorf("two answers of Places(%v) share memory", p)
		}
	}
}

// Promise 9.1: Right, by hand.
func TestRight(t *testing.T) {
	for _, p := range []api.Ptr{
		one(),
		{Size: 1, Birth: 1},
		{A: place(0, 23), Size: 1, Birth: 1},
		{A: place(0, 20), Size: 4, Birth: great, Level: 3},
		{A: place(1, 70), Size: 1, Birth: 1},
		{A: place(1, 66), Size: 3, Birth: 1},
		// Of the Mirror a stretch is as long as the block: right behind it, right ahead of it.
		{A: place(0, 10), B: place(0, 11), Two: true, Size: 1, Birth: 9},
		{A: place(0, 10), B: place(0, 9), Two: true, Size: 1, Birth: 9},
		{A: place(0, 10), B: place(0, 14), Two: true, Size: 4, Birth: 9},
		{A: place(0, 10), B: place(0, 6), Two: true, Size: 4, Birth: 9},
		// Of the Parity of 3 sizes from 1 to 4 take 2, 4, 6 and 6.
		{A: place(1, 10), B: place(1, 12), Two: true, Size: 1, Birth: 9},
		{A: place(1, 10), B: place(1, 8), Two: true, Size: 1, Birth: 9},
		{A: place(1, 10), B: place(1, 14), Two: true, Size: 2, Birth: 9},
		{A: place(1, 10), B: place(1, 6), Two: true, Size: 2, Birth: 9},
		{A: place(1, 10), B: place(1, 16), Two: true, Size: 3, Birth: 9},
		{A: place(1, 10), B: place(1, 4), Two: true, Size: 3, Birth: 9},
		{A: place(1, 10), B: place(1, 16), Two: true, Size: 4, Birth: 9},
		{A: place(1, 10), B: place(1, 4), Two: true, Size: 4, Birth: 9},
		// In another group, at the same sector, and at zero, which with Two is a place.
		{A: place(0, 7), B: place(1, 7), Two: true, Size: 4, Birth: 9},
		{A: place(1, 7), B: place(0, 7), Two: true, Size: 4, Birth: 9},
		{A: place(1, 0), B: place(0, 0), Two: true, Size: 4, Birth: 9},
		{A: place(0, 4), B: place(0, 0), Two: true, Size: 4, Birth: 9},
	} {
		if !Right(two(), p) {
			t.Errorf("%v isn't right", p)
		}
	}
}

// Promise 9.1: Right, not of what is at none, of two places that share sectors, or of a place that the group doesn't have; by hand.
func TestRightNot(t *testing.T) {
	for _, p := range []api.Ptr{
		{},
		// Sharing one sector, and all of them.
		{A: place(0, 10), B: place(0, 10), Two: true, Size: 1, Birth: 9},
		{A: place(0, 0), B: place(0, 0), Two: true, Size: 1, Birth: 9},
		{A: place(0, 10), B: place(0, 13), Two: true, Size: 4, Birth: 9},
		{A: place(0, 10), B: place(0, 7), Two: true, Size: 4, Birth: 9},
		{A: place(0, 10), B: place(0, 10), Two: true, Size: 4, Birth: 9},
		{A: place(1, 10), B: place(1, 11), Two: true, Size: 1, Birth: 9},
		{A: place(1, 10), B: place(1, 9), Two: true, Size: 1, Birth: 9},
		{A: place(1, 10), B: place(1, 10), Two: true, Size: 1, Birth: 9},
		{A: place(1, 10), B: place(1, 15), Two: true, Size: 4, Birth: 9},
		{A: place(1, 10), B: place(1, 5), Two: true, Size: 4, Birth: 9},
		{A: place(1, 10), B: place(1, 10), Two: true, Size: 4, Birth: 9},
		// Sharing none but what is skipped, of the one behind and of the one ahead.
		{A: place(1, 10), B: place(1, 13), Two: true, Size: 2, Birth: 9},
		{A: place(1, 10), B: place(1, 7), Two: true, Size: 2, Birth: 9},
		{A: place(1, 10), B: place(1, 15), Two: true, Size: 3, Birth: 9},
		{A: place(1, 10), B: place(1, 5), Two: true, Size: 3, Birth: 9},
		// Beyond the group's sectors, if by what is skipped alone, and below 0.
		{A: place(0, 24), Size: 1, Birth: 9},
		{A: place(0, 21), Size: 4, Birth: 9},
		{A: place(0, -1), Size: 1, Birth: 9},
		{A: place(1, 71), Size: 1, Birth: 9},
		{A: place(1, 67), Size: 3, Birth: 9},
		{A: place(1, -1), Size: 1, Birth: 9},
		{A: place(0, 0), B: place(0, 24), Two: true, Size: 1, Birth: 9},
		{A: place(0, 0), B: place(0, 21), Two: true, Size: 4, Birth: 9},
		{A: place(0, 0), B: place(0, -4), Two: true, Size: 4, Birth: 9},
		{A: place(0, 0), B: place(1, 67), Two: true, Size: 3, Birth: 9},
		{A: place(1, 0), B: place(0, 60), Two: true, Size: 3, Birth: 9},
	} {
		if Right(two(), p) {
			t.Errorf("%v is right", p)
		}
	}
}

// Promise 9.1: Right, of each Size and Level, and Births at the edges, and of no other ones, with Two and without.
func TestRightNumbers(t *testing.T) {
	single := api.Ptr{A: place(0, 6), Size: 3, Level: 2, Birth: 700}
	for _, p := range []api.Ptr{one(), single} {
		for n := -3; n < 300; n++ {
			q := p
			q.Size = n
			if want := n >= 1 && n <= 4; Right(two(), q) != want {
				t.Errorf("Right(%v) = %t", q, !want)
			}
			q = p
			q.Level = n
			if want := n >= 0 && n <= 3; Right(two(), q) != want {
				t.Errorf("Right(%v) = %t", q, !want)
			}
		}
		for _, n := range []int{-1 << 32, math.MinInt, math.MinInt + 1, 1 << 32, 1<<32 + 1, 1<<32 + 2, math.MaxInt} {
			for _, i := range []int{4, 5, 6} {
				if q := fields()[i].with(p, n); Right(two(), q) {
					t.Errorf("%v is right", q)
				}
			}
		}
		for n, want := range map[int]bool{-1: false, 0: false, 1: true, 2: true, 1 << 31: true, great - 1: true, great: true, 1 << 32: false} {
			q := p
			q.Birth = n
			if Right(two(), q) != want {
				t.Errorf("Right(%v) = %t", q, !want)
			}
		}
	}
}

// Promise 9.1: Right asks nothing of the sum.
func TestRightAnySum(t *testing.T) {
	for _, sum := range []api.Sum{{}, {1, 1, 1, 1}, {math.MaxUint64, math.MaxUint64, math.MaxUint64, math.MaxUint64}} {
		p := one()
		p.Sum = sum
		if !Right(two(), p) {
			t.Errorf("%v isn't right", p)
		}
	}
}

// Promise 9.1: Right, of no place in a group that there isn't.
func TestRightWrongGroups(t *testing.T) {
	for _, g := range []api.Geom{measure(40, parity(3)), two(), measure(40, mirror(1), mirror(1), mirror(1), mirror(1))} {
		n := len(g.Groups)
		for _, group := range []int{-1, -2, n, n + 1, 4, 5, great, 1 << 32, math.MinInt, math.MaxInt} {
			if p := (api.Ptr{A: place(group, 0), Size: 1, Birth: 1}); Right(g, p) {
				t.Errorf("%v: %v is right", g, p)
			}
			if p := (api.Ptr{A: place(0, 0), B: place(group, 8), Two: true, Size: 1, Birth: 1}); Right(g, p) {
				t.Errorf("%v: %v is right", g, p)
			}
			if p := (api.Ptr{A: place(group, 0), B: place(group, 8), Two: true, Size: 1, Birth: 1}); Right(g, p) {
				t.Errorf("%v: %v is right", g, p)
			}
		}
	}
}

// Promise 9.1: Right, of no place that is far out, nor of one at which a sum would wrap.
func TestRightFarPlaces(t *testing.T) {
	for group := range two().Groups {
		for _, at := range []int{-1, -6, -1 << 32, math.MinInt, math.MinInt + 6, 1 << 31, great, 1 << 32, math.MaxInt - 6, math.MaxInt - 1, math.MaxInt} {
			for size := 1; size <= 4; size++ {
				for _, p := range []api.Ptr{
					{A: place(group, at), Size: size, Birth: 1},
					{A: place(group, at), B: place(1, 0), Two: true, Size: size, Birth: 1},
					{A: place(1, 0), B: place(group, at), Two: true, Size: size, Birth: 1},
					{A: place(group, at), B: place(group, -at), Two: true, Size: size, Birth: 1},
				} {
					if Right(two(), p) {
						t.Errorf("%v is right", p)
					}
				}
			}
		}
	}
}

// Promise 9.1: Right, without Two of no pointer whose B isn't zero, though it would be right with Two.
func TestRightWithoutTwo(t *testing.T) {
	for _, b := range []api.Place{place(0, 1), place(0, 23), place(1, 0), place(1, 40), place(-1, 0), place(0, -1), place(math.MinInt, 0), place(0, math.MaxInt)} {
		p := api.Ptr{A: place(1, 6), B: b, Size: 1, Birth: 1}
		if Right(two(), p) {
			t.Errorf("%v is right", p)
		}
	}
	p := api.Ptr{A: place(1, 6), Size: 1, Birth: 1}
	if !Right(two(), p) {
		t.Errorf("%v isn't right", p)
	}
	// The same with Two: B zero is the first sector of the first group, which A may share.
	p.Two = true
	if !Right(two(), p) {
		t.Errorf("%v isn't right", p)
	}
	p.A = place(0, 0)
	if Right(two(), p) {
		t.Errorf("%v is right", p)
	}
}

// Promise 9.1: Right, for no measure that isn't right itself.
func TestRightWrongMeasures(t *testing.T) {
	for _, g := range wrong() {
		for _, p := range []api.Ptr{
			{},
			{Size: 1, Birth: 1},
			{A: place(1, 0), Size: 1, Birth: 1},
			{B: place(1, 0), Two: true, Size: 1, Birth: 1},
			{B: place(0, 4), Two: true, Size: 1, Birth: 1},
		} {
			if Right(g, p) {
				t.Errorf("%v is right for %v", p, g)
			}
		}
	}
}

// given answers how many sectors a group gives out, and taken what a block takes of it, by the chapter's own words.
func given(p api.Group, secs int) int {
	if p.Kind == api.Parity {
		return (secs - 16) * p.Wide
	}
	return secs - 16
}

func taken(p api.Group, size int) int {
	if p.Kind == api.Mirror {
		return size
	}
	n := size
	for left := size; left > 0; left -= p.Wide - 1 {
		n++
	}
	return n + n%2
}

// shared answers how many sectors two stretches share, sector by sector.
func shared(a, b, takes int) int {
	n := 0
	for i := range takes {
		for k := range takes {
			if a+i == b+k {
				n++
			}
		}
	}
	return n
}

// Promise 9.1: Right, of all pairs of places of each right group, alone and among others: where both are inside, and share no sector.
func TestRightAllPairs(t *testing.T) {
	for _, p := range groups() {
		for _, c := range []struct {
			g     api.Geom
			group int
		}{{measure(24, p), 0}, {measure(25, mirror(2), p, parity(3)), 1}} {
			last := given(p, c.g.Secs)
			for size := 1; size <= 4; size++ {
				takes := taken(p, size)
				for a := -1; a <= last; a++ {
					inside := a >= 0 && a+takes <= last
					single := api.Ptr{A: place(c.group, a), Size: size, Birth: 1}
					if Right(c.g, single) != inside {
						t.Fatalf("%v: Right(%v) = %t", c.g, single, !inside)
					}
					for b := -1; b <= last; b++ {
						q := api.Ptr{A: place(c.group, a), B: place(c.group, b), Two: true, Size: size, Birth: 1}
						want := inside && b >= 0 && b+takes <= last && shared(a, b, takes) == 0
						if Right(c.g, q) != want {
							t.Fatalf("%v: Right(%v) = %t", c.g, q, !want)
						}
					}
				}
			}
		}
	}
}

// Promise 9.1: Right, of all pairs of places of unlike groups: where each is inside its own one.
func TestRightAllPairsApart(t *testing.T) {
	g := measure(24, mirror(3), parity(3), parity(8))
	for i, p := range g.Groups {
		for k, o := range g.Groups {
			if i == k {
				continue
			}
			for size := 1; size <= 4; size++ {
				for a := -1; a <= given(p, 24); a++ {
					for b := -1; b <= given(o, 24); b++ {
						q := api.Ptr{A: place(i, a), B: place(k, b), Two: true, Size: size, Birth: 1}
						want := a >= 0 && b >= 0 && a+taken(p, size) <= given(p, 24) && b+taken(o, size) <= given(o, 24)
						if Right(g, q) != want {
							t.Fatalf("Right(%v) = %t", q, !want)
						}
					}
				}
			}
		}
	}
}

// Promise 9.1: Right, up to the last sector of the greatest measure there is.
func TestRightGreatest(t *testing.T) {
	g := measure(4096, mirror(8), parity(8), mirror(8), parity(8))
	for _, c := range []struct {
		p    api.Ptr
		want bool
	}{
		{api.Ptr{A: place(3, 32634), Size: 4, Level: 3, Birth: great}, true},
		{api.Ptr{A: place(3, 32635), Size: 4, Level: 3, Birth: great}, false},
		{api.Ptr{A: place(3, 32634), B: place(2, 4076), Two: true, Size: 4, Birth: 1}, true},
		{api.Ptr{A: place(3, 32634), B: place(2, 4077), Two: true, Size: 4, Birth: 1}, false},
		{api.Ptr{A: place(3, 32634), B: place(3, 32628), Two: true, Size: 4, Birth: 1}, true},
		{api.Ptr{A: place(3, 32634), B: place(3, 32629), Two: true, Size: 4, Birth: 1}, false},
		{api.Ptr{A: place(4, 0), Size: 4, Birth: 1}, false},
	} {
		if Right(g, c.p) != c.want {
			t.Errorf("Right(%v) = %t", c.p, !c.want)
		}
	}
}

// Promise 9.1: Less, by births, then by A's group, then by A's sector; of pointers alike not.
func TestLess(t *testing.T) {
	born := func(birth, group, at int) api.Ptr { return api.Ptr{A: place(group, at), Birth: birth, Size: 1} }
	cases := []struct {
		a, b api.Ptr
		want bool
	}{
		{born(1, 0, 0), born(2, 0, 0), true},
		{born(1, 3, 0), born(2, 0, 0), true},
		{born(1, 0, 9), born(2, 0, 0), true},
		{born(1, 3, 9), born(2, 0, 0), true},
		{born(1, 0, 0), born(great, 0, 0), true},
		{born(5, 0, 0), born(5, 1, 0), true},
		{born(5, 0, 9), born(5, 1, 0), true},
		{born(5, 2, 9), born(5, 3, 9), true},
		{born(5, 2, 8), born(5, 2, 9), true},
		{born(5, 2, 9), born(5, 2, 10), true},
		{born(5, 2, 9), born(5, 2, 9), false},
		{api.Ptr{}, api.Ptr{}, false},
		{api.Ptr{}, born(1, 0, 0), true},
		{one(), one(), false},
		{born(-1, 0, 0), born(0, 0, 0), true},
		{born(math.MinInt, 0, 0), born(math.MaxInt, 0, 0), true},
		{born(0, math.MinInt, 0), born(0, math.MaxInt, 0), true},
		{born(0, 0, math.MinInt), born(0, 0, math.MaxInt), true},
	}
	for _, c := range cases {
		if Less(c.a, c.b) != c.want {
			t.Errorf("Less(%v, %v) = %t", c.a, c.b, !c.want)
		}
		if Less(c.b, c.a) {
			t.Errorf("Less(%v, %v) = true", c.b, c.a)
		}
	}
}

// Promise 9.1: Less puts all in order by the three numbers alone.
func TestLessAll(t *testing.T) {
	var l []api.Ptr
	for _, birth := range []int{0, 1, 2, 255, 256, great} {
		for _, group := range []int{0, 1, 3} {
			for _, at := range []int{0, 1, 255, 256, 32000} {
				l = append(l, api.Ptr{A: place(group, at), Birth: birth})
			}
		}
	}
	// They stand in order as they are made.
	for i, a := range l {
		for k, b := range l {
			if Less(a, b) != (i < k) {
				t.Fatalf("Less(%v, %v) = %t", a, b, i >= k)
			}
		}
	}
}

// Promise 9.1: Less doesn't look at B, Two, Size, Level or the sum.
func TestLessLooksAtNothingElse(t *testing.T) {
	p := one()
	for _, q := range others(p) {
		alike := q.Birth == p.Birth && q.A == p.A
		if alike && (Less(p, q) || Less(q, p)) {
			t.Errorf("Less, of %v and %v", p, q)
		}
		if !alike && Less(p, q) == Less(q, p) {
			t.Errorf("Less is the same both ways, of %v and %v", p, q)
		}
	}
	early := api.Ptr{A: place(0, 6), B: place(3, 9), Two: true, Size: 4, Level: 3, Birth: 4, Sum: api.Sum{9, 9, 9, 9}}
	late := api.Ptr{A: place(0, 6), Size: 1, Birth: 5}
	if !Less(early, late) || Less(late, early) {
		t.Errorf("Less(%v, %v)", early, late)
	}
}

// zeros answers zero bytes.
func zeros(n int) string { return strings.Repeat("\x00", n) }

// laid answers pointers beside their bytes, by hand.
func laid() []struct {
	p api.Ptr
	s string
} {
	full := strings.Repeat("\xff", 4)
	return []struct {
		p api.Ptr
		s string
	}{
		{api.Ptr{}, zeros(64)},
		{one(), "\x01\x00\x00\x00" + "\x06\x00\x00\x00" + "\x01\x00\x00\x00" + "\x14\x00\x00\x00" + "\x03\x02\x01\x00" + "\xbc\x02\x00\x00" +
			"\x0b" + zeros(7) + "\x0c" + zeros(7) + "\x0d" + zeros(7) + zeros(7) + "\x80" + zeros(8)},
		{api.Ptr{A: place(0x01020304, 0x05060708), B: place(0x090a0b0c, 0x0d0e0f10), Size: 0x11, Level: 0x12, Birth: 0x13141516,
			Sum: api.Sum{0x2122232425262728, 0x3132333435363738, 0x4142434445464748, 0x5152535455565758}},
			"\x04\x03\x02\x01" + "\x08\x07\x06\x05" + "\x0c\x0b\x0a\x09" + "\x10\x0f\x0e\x0d" + "\x11\x12\x00\x00" + "\x16\x15\x14\x13" +
				"\x28\x27\x26\x25\x24\x23\x22\x21" + "\x38\x37\x36\x35\x34\x33\x32\x31" + "\x48\x47\x46\x45\x44\x43\x42\x41" + "\x58\x57\x56\x55\x54\x53\x52\x51" + zeros(8)},
		{api.Ptr{Two: true}, zeros(18) + "\x01" + zeros(45)},
		{api.Ptr{Size: 255}, zeros(16) + "\xff" + zeros(47)},
		{api.Ptr{Level: 255}, zeros(17) + "\xff" + zeros(46)},
		{api.Ptr{Size: 255, Level: 255, Two: true}, zeros(16) + "\xff\xff\x01\x00" + zeros(44)},
		{api.Ptr{A: place(great, 0)}, full + zeros(60)},
		{api.Ptr{A: place(0, great)}, zeros(4) + full + zeros(56)},
		{api.Ptr{B: place(great, 0)}, zeros(8) + full + zeros(52)},
		{api.Ptr{B: place(0, great)}, zeros(12) + full + zeros(48)},
		{api.Ptr{Birth: great}, zeros(20) + full + zeros(40)},
		{api.Ptr{Sum: api.Sum{3: math.MaxUint64}}, zeros(48) + full + full + zeros(8)},
		{api.Ptr{A: place(great, great), B: place(great, great), Two: true, Size: 255, Level: 255, Birth: great,
			Sum: api.Sum{math.MaxUint64, math.MaxUint64, math.MaxUint64, math.MaxUint64}},
			strings.Repeat(full, 4) + "\xff\xff\x01\x00" + strings.Repeat(full, 9) + zeros(8)},
	}
}

// Promise 9.2: Bytes, by hand: the chapter's example, each number at its place, and the greatest ones; it doesn't ask for a pointer that is right.
func TestBytes(t *testing.T) {
	for _, c := range laid() {
		if s, e := Bytes(c.p); s != c.s || e != api.OK {
			t.Errorf("Bytes(%v) = %q, %d, want %q", c.p, s, e, c.s)
		}
	}
}

// Promise 9.2: Bytes has layer 2's bytes of the sum.
func TestBytesSum(t *testing.T) {
	p := one()
	p.Sum = fletch.Sum("a block's text")
	if s, e := Bytes(p); e != api.OK || len(s) != 64 || s[24:56] != fletch.Bytes(p.Sum) {
		t.Errorf("Bytes = %q, %d", s, e)
	}
}

// Promise 9.2: ErrArg of each number below 0, of each beyond what it may be, and nothing beside it; one below that is laid.
func TestBytesWrong(t *testing.T) {
	for _, base := range []api.Ptr{{}, one()} {
		for _, f := range fields() {
			for _, n := range []int{-1, -2, -255, -256, -65536, -131072, -1 << 32, math.MinInt, math.MinInt + 1, f.most + 1, f.most + 2, 1 << 32, 1<<32 + 1, 1<<62 - 1, 1 << 62, math.MaxInt} {
				if s, e := Bytes(f.with(base, n)); s != "" || e != api.ErrArg {
					t.Errorf("Bytes with %s %d = %q, %d", f.name, n, s, e)
				}
			}
			for _, n := range []int{0, 1, f.most - 1, f.most} {
				if s, e := Bytes(f.with(base, n)); len(s) != 64 || e != api.OK {
					t.Errorf("Bytes with %s %d = %q, %d", f.name, n, s, e)
				}
			}
		}
	}
}

// Promise 9.2: ErrArg of numbers that make up for each other in the one number.
func TestBytesWrongTogether(t *testing.T) {
	for _, p := range []api.Ptr{
		{Size: -256, Level: 1},
		{Size: -1, Level: 1},
		{Size: 256, Level: -1},
		{Size: 512, Level: -2},
		{Size: -65536, Two: true},
		{Level: -256, Two: true},
		{Level: -1, Two: true},
		{Level: 256},
		{Level: 1 << 56},
		{Level: 1 << 55},
		{Size: 65536},
		{A: place(-1, 1<<32)},
		{A: place(1<<32, 0), B: place(-1, 0)},
	} {
		if s, e := Bytes(p); s != "" || e != api.ErrArg {
			t.Errorf("Bytes(%v) = %q, %d", p, s, e)
		}
	}
}

// Promise 9.2: Read, by hand.
func TestRead(t *testing.T) {
	for _, c := range laid() {
		if p, e := Read(c.s); p != c.p || e != api.OK {
			t.Errorf("Read(%q) = %v, %d, want %v", c.s, p, e, c.p)
		}
	}
}

// readWrong asks for an error, and a pointer at none beside it.
func readWrong(t *testing.T, s string, want api.Errno) {
	t.Helper()
	if p, e := Read(s); p != (api.Ptr{}) || e != want {
		t.Errorf("Read(%q) = %v, %d, want %d", s, p, e, want)
	}
}

// Promise 9.2: ErrShort of fewer than 64 bytes, whatever they are.
func TestReadShort(t *testing.T) {
	for _, c := range laid() {
		for n := range 64 {
			readWrong(t, c.s[:n], api.ErrShort)
		}
	}
	readWrong(t, "", api.ErrShort)
	readWrong(t, strings.Repeat("\xff", 63), api.ErrShort)
}

// Promise 9.2: ErrForm of more than 64 bytes, though those ahead are a pointer's, or though more zero bytes follow.
func TestReadLong(t *testing.T) {
	for _, c := range laid() {
		for _, more := range []string{"\x00", "x", zeros(2), zeros(64), c.s} {
			readWrong(t, c.s+more, api.ErrForm)
		}
	}
	readWrong(t, strings.Repeat("\xff", 65), api.ErrForm)
}

// Promise 9.2: ErrForm, if one of the zero bytes is any other one.
func TestReadZeroBytes(t *testing.T) {
	for _, c := range laid() {
		for at := 56; at < 64; at++ {
			for b := 1; b < 256; b++ {
				l := []byte(c.s)
				l[at] = byte(b)
				readWrong(t, string(l), api.ErrForm)
			}
		}
		readWrong(t, c.s[:56]+strings.Repeat("\xff", 8), api.ErrForm)
	}
}

// Promise 9.2: the one number, up to 131071, and ErrForm from 131072 on.
func TestReadOneNumber(t *testing.T) {
	s, e := Bytes(one())
	if e != api.OK {
		t.Fatal(e)
	}
	with := func(n int) string {
		return s[:16] + string([]byte{byte(n), byte(n >> 8), byte(n >> 16), byte(n >> 24)}) + s[20:]
	}
	for n := range 131072 {
		want := one()
		want.Size, want.Level, want.Two = n%256, n/256%256, n/65536 == 1
		if p, e := Read(with(n)); p != want || e != api.OK {
			t.Fatalf("Read with the one number %d = %v, %d", n, p, e)
		}
	}
	for _, n := range []int{131072, 131073, 131072 + 65536, 196607, 196608, 262143, 262144, 1<<31 - 1, great - 1, great} {
		readWrong(t, with(n), api.ErrForm)
	}
	for bit := 17; bit < 32; bit++ {
		for _, low := range []int{0, 1, 3 + 256*2, 65536, 131071} {
			readWrong(t, with(low|1<<bit), api.ErrForm)
		}
	}
}

// Promise 9.2: Read asks for no pointer that is right: Size 0, places beyond any measure, B without Two.
func TestReadNotRight(t *testing.T) {
	for _, want := range []api.Ptr{
		{Birth: 5},
		{A: place(9, 70000), Size: 200, Level: 100},
		{A: place(0, 1), B: place(0, 9), Size: 1, Birth: 1},
		{A: place(0, 1), B: place(0, 1), Two: true, Size: 1, Birth: 1},
	} {
		s, e := Bytes(want)
		if e != api.OK {
			t.Errorf("Bytes(%v) = %d", want, e)
		}
		if p, e := Read(s); p != want || e != api.OK {
			t.Errorf("Read(%q) = %v, %d, want %v", s, p, e, want)
		}
	}
}

// many answers many pointers that can be laid, no two alike.
func many() []api.Ptr {
	l := []api.Ptr{{}, one()}
	l = append(l, others(api.Ptr{})...)
	l = append(l, others(one())...)
	x := uint64(1)
	next := func(below int) int {
		// A rule of its own, always the same: no random source is needed for numbers that are unlike.
		x = x*6364136223846793005 + 1442695040888963407
		return int(x >> 33 % uint64(below))
	}
	for range 500 {
		l = append(l, api.Ptr{
			A:     place(next(4), next(1<<30)),
			B:     place(next(4), next(1<<30)),
			Two:   next(2) == 1,
			Size:  next(256),
			Level: next(256),
			Birth: next(1 << 30),
			Sum:   fletch.Sum(strings.Repeat("x", next(100))),
		})
	}
	seen := map[api.Ptr]struct{}{}
	return slices.DeleteFunc(l, func(p api.Ptr) bool {
		_, ok := seen[p]
		seen[p] = struct{}{}
		return ok
	})
}

// Promise 9.3: what is laid is read as it was; of two unlike pointers the bytes are unlike.
func TestLaidIsRead(t *testing.T) {
	seen := map[string]api.Ptr{}
	for _, p := range many() {
		s, e := Bytes(p)
		if len(s) != 64 || e != api.OK {
			t.Fatalf("Bytes(%v) = %q, %d", p, s, e)
		}
		if q, e := Read(s); q != p || e != api.OK {
			t.Fatalf("Read of Bytes(%v) = %v, %d", p, q, e)
		}
		if q, ok := seen[s]; ok {
			t.Fatalf("%v and %v have the same bytes", p, q)
		}
		seen[s] = p
	}
	if len(seen) < 900 {
		t.Errorf("%d pointers alone", len(seen))
	}
}

// Promise 9.3: each right pointer of a measure is read as it was.
func TestRightIsRead(t *testing.T) {
	g := measure(24, mirror(2), parity(3))
	n := 0
	for a := range 24 {
		for b := range 24 {
			for size := 1; size <= 4; size++ {
				for level := range 4 {
					p := api.Ptr{A: place(1, a), B: place(b%2, b/2), Two: true, Size: size, Level: level, Birth: great - a, Sum: fletch.Sum("text")}
					if !Right(g, p) {
						continue
					}
					n++
					s, e := Bytes(p)
					if e != api.OK {
						t.Fatalf("Bytes(%v) = %d", p, e)
					}
					if q, e := Read(s); q != p || e != api.OK || !Right(g, q) {
						t.Fatalf("Read of Bytes(%v) = %v, %d", p, q, e)
					}
				}
			}
		}
	}
	if n == 0 {
		t.Errorf("no pointer is right")
	}
}

// Promise 9.3: nothing else is read as it: with any byte another one there is an error, or an unlike pointer, whose bytes these are.
func TestNothingElseIsRead(t *testing.T) {
	for _, c := range laid() {
		for at := range 64 {
			for by := 1; by < 256; by++ {
				l := []byte(c.s)
				l[at] ^= byte(by)
				p, e := Read(string(l))
				if e == api.ErrForm && p == (api.Ptr{}) {
					continue
				}
				if e != api.OK || p == c.p {
					t.Fatalf("Read(%q) = %v, %d", l, p, e)
				}
				if s, e := Bytes(p); s != string(l) || e != api.OK {
					t.Fatalf("Bytes(Read(%q)) = %q, %d", l, s, e)
				}
			}
		}
	}
}

// Rule 1: no call panics, whatever numbers are handed in.
func TestAnyNumbers(t *testing.T) {
	numbers := []int{math.MinInt, math.MinInt + 1, -1 << 32, -1, 0, 1, 255, 256, great, 1 << 32, math.MaxInt - 1, math.MaxInt}
	measures := append(wrong(), two(), measure(4096, parity(8)))
	for _, f := range fields() {
		for _, o := range fields() {
			for _, n := range numbers {
				for _, m := range numbers {
					p := o.with(f.with(one(), n), m)
					for _, g := range measures {
						Right(g, p)
					}
					if None(p) || len(Places(p)) != 2 || Less(p, p) {
						t.Fatalf("None, Places or Less of %v", p)
					}
					if s, e := Bytes(p); (e == api.OK) != (len(s) == 64) || e != api.OK && (e != api.ErrArg || s != "") {
						t.Fatalf("Bytes(%v) = %q, %d", p, s, e)
					}
				}
			}
		}
	}
}

// Rule 4: the groups that are handed in aren't changed, spare room included, and that room says nothing.
func TestArgumentsAreLeft(t *testing.T) {
	room := []api.Group{mirror(2), parity(3), mirror(0), {Kind: 7, Wide: 7}}
	was := slices.Clone(room)
	g := measure(40, room[:2]...)
	for range 2 {
		if !Right(g, one()) || Right(g, api.Ptr{A: place(2, 0), Size: 1, Birth: 1}) {
			t.Errorf("Right")
		}
	}
	if !slices.Equal(room, was) {
		t.Errorf("the groups have become %v", room)
	}
}
