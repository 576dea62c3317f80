package par

import (
	"slices"
	"strings"
	"testing"

	"polder/api"
)

// parityOf works a parity out by the chapter's words alone: place by place, of even columns.
func parityOf(l []string) string {
	var p []byte
	for i := range len(l[0]) {
		var b byte
		for _, s := range l {
			b ^= s[i]
		}
		p = append(p, b)
	}
	return string(p)
}

// column answers n bytes, others for each seed.
func column(seed, n int) string {
	b := make([]byte, n)
	for i := range b {
		b[i] = byte((seed+3)*(i+7)*167 + seed*29)
	}
	return string(b)
}

// columns answers wide columns of n bytes each.
func columns(wide, n int) []string {
	var l []string
	for i := range wide {
		l = append(l, column(i, n))
	}
	return l
}

// orders goes through all orders of l.
func orders(l []string, yield func([]string)) {
	var lay func(done, left []string)
	lay = func(done, left []string) {
		if len(left) == 0 {
			yield(slices.Clone(done))
			return
		}
		for i := range left {
			lay(append(slices.Clone(done), left[i]), slices.Concat(left[:i], left[i+1:]))
		}
	}
	lay(nil, l)
}

// Promise 3.1: Even, of none, of one, and of an uneven one wherever it stands.
func TestEven(t *testing.T) {
	cases := []struct {
		l    []string
		want bool
	}{
		{nil, true},
		{[]string{}, true},
		{[]string{""}, true},
		{[]string{"abc"}, true},
		{[]string{"", ""}, true},
		{[]string{"", "", ""}, true},
		{[]string{"ab", "cd"}, true},
		{[]string{"ab", "cd", "\x00\x00"}, true},
		{[]string{"", "a"}, false},
		{[]string{"a", ""}, false},
		{[]string{"a", "bc"}, false},
		{[]string{"bc", "a"}, false},
		{[]string{"abc", "de", "fgh"}, false},
		{[]string{"abc", "def", "gh"}, false},
		{[]string{"abc", "def", "ghij"}, false},
		{[]string{"a", "bc", "de"}, false},
		{[]string{"ab", "c", "de", "f"}, false},
		// As long in bytes, not in runes; and the other way round.
		{[]string{"é", "ab"}, true},
		{[]string{"é", "a"}, false},
	}
	for _, c := range cases {
		if got := Even(c.l...); got != c.want {
			t.Errorf("Even(%q) = %v", c.l, got)
		}
	}
	if !Even() {
		t.Error("Even() = false")
	}
}

// Promise 3.1: Make, the chapter's example first.
func TestMake(t *testing.T) {
	cases := []struct {
		l    []string
		want string
	}{
		{[]string{"\x01\x02", "\x04\x06"}, "\x05\x04"},
		{[]string{"a"}, "a"},
		{[]string{"\x00\xff\x80"}, "\x00\xff\x80"},
		{[]string{""}, ""},
		{[]string{"", ""}, ""},
		{[]string{"", "", ""}, ""},
		{[]string{"ab", "ab"}, "\x00\x00"},
		{[]string{"ab", "ab", "ab"}, "ab"},
		{[]string{"\x01", "\x02", "\x04", "\x08", "\x10", "\x20", "\x40", "\x80"}, "\xff"},
		{[]string{"\xff\x00", "\x0f\xf0"}, "\xf0\xf0"},
		{[]string{"\x01", "\x01", "\x03"}, "\x03"},
	}
	for _, c := range cases {
		if got, e := Make(c.l...); got != c.want || e != api.OK {
			t.Errorf("Make(%q) = %q, %d, want %q", c.l, got, e, c.want)
		}
	}
}

// Promise 3.1: Make of columns as long and as many as a pool has, and longer ones.
func TestMakeOfMany(t *testing.T) {
	for wide := 1; wide <= 2*api.MaxWide; wide++ {
		for _, n := range []int{0, 1, 7, api.Sector, api.Sector * api.MaxBlock, 1000} {
			l := columns(wide, n)
			if got, e := Make(l...); got != parityOf(l) || e != api.OK {
				t.Errorf("Make of %d columns of %d bytes = %q, %d", wide, n, got, e)
			}
		}
	}
}

// Promise 3.1: Make refuses no columns, and uneven ones.
func TestMakeRefuses(t *testing.T) {
	for _, l := range [][]string{
		nil,
		{},
		{"", "a"},
		{"a", ""},
		{"a", "bc"},
		{"bc", "a"},
		{"ab", "cd", "e"},
		{"ab", "cd", "efg"},
		{"ab", "cde", "fg"},
		{"a", "bc", "de"},
	} {
		if got, e := Make(l...); got != "" || e != api.ErrArg {
			t.Errorf("Make(%q) = %q, %d, want nothing and ErrArg", l, got, e)
		}
	}
	if got, e := Make(); got != "" || e != api.ErrArg {
		t.Errorf("Make() = %q, %d, want nothing and ErrArg", got, e)
	}
}

// Promise 3.1: Right, of what is the parity.
func TestRight(t *testing.T) {
	for _, c := range []struct {
		p string
		l []string
	}{
		{"\x05\x04", []string{"\x01\x02", "\x04\x06"}},
		{"abc", []string{"abc"}},
		{"", []string{""}},
		{"", []string{"", ""}},
		{"\x00", []string{"x", "x"}},
		{parityOf(columns(8, 64)), columns(8, 64)},
	} {
		if !Right(c.p, c.l...) {
			t.Errorf("Right(%q, %q) = false", c.p, c.l)
		}
	}
}

// Promise 3.1: Right, of what is none: other bytes, another length, no columns, uneven ones.
func TestNotRight(t *testing.T) {
	for _, c := range []struct {
		p string
		l []string
	}{
		{"\x05\x05", []string{"\x01\x02", "\x04\x06"}},
		{"\x04\x04", []string{"\x01\x02", "\x04\x06"}},
		{"\x05", []string{"\x01\x02", "\x04\x06"}},
		{"\x05\x04\x00", []string{"\x01\x02", "\x04\x06"}},
		{"", []string{"\x01\x02", "\x04\x06"}},
		{"", []string{"a"}},
		{"a", []string{""}},
		{"\x00", []string{"", ""}},
		{"", nil},
		{"a", nil},
		{"\x00", nil},
		{"", []string{"", "a"}},
		{"", []string{"a", ""}},
		{"a", []string{"a", ""}},
		{"a", []string{"", "a"}},
		{"\x03", []string{"\x01", "\x02\x00"}},
		{"\x03\x00", []string{"\x01", "\x02\x00"}},
		{"\x03\x00", []string{"\x01\x00", "\x02"}},
	} {
		if Right(c.p, c.l...) {
			t.Errorf("Right(%q, %q) = true", c.p, c.l)
		}
	}
	if Right("") {
		t.Error("Right of no columns = true")
	}
}

// Promise 3.1: one bit of a parity, or of a column, that is another one: not right.
func TestNotRightByOneBit(t *testing.T) {
	l := columns(3, 5)
	all := append(slices.Clone(l), parityOf(l))
	for at, s := range all {
		for bit := range 8 * len(s) {
			b := []byte(s)
			b[bit/8] ^= 1 << (bit % 8)
			other := slices.Clone(all)
			other[at] = string(b)
			if Right(other[3], other[:3]...) {
				t.Errorf("column %d with bit %d changed is right", at, bit)
			}
		}
	}
}

// Promise 3.2: Again, of two and of more, what stands at the place being whatever it is.
func TestAgain(t *testing.T) {
	cases := []struct {
		l    []string
		at   int
		want string
	}{
		{[]string{"ab", "cd"}, 0, "cd"},
		{[]string{"ab", "cd"}, 1, "ab"},
		{[]string{"", ""}, 0, ""},
		{[]string{"", ""}, 1, ""},
		{[]string{"\x01\x02", "\x04\x06", "\x05\x04"}, 0, "\x01\x02"},
		{[]string{"\x01\x02", "\x04\x06", "\x05\x04"}, 1, "\x04\x06"},
		{[]string{"\x01\x02", "\x04\x06", "\x05\x04"}, 2, "\x05\x04"},
		{[]string{"??", "\x04\x06", "\x05\x04"}, 0, "\x01\x02"},
		{[]string{"\x01\x02", "\x04\x06", "??"}, 2, "\x05\x04"},
		// Uneven at the place that is made anew: it isn't looked at.
		{[]string{"", "\x04\x06", "\x05\x04"}, 0, "\x01\x02"},
		{[]string{"\x01\x02", "long", "\x05\x04"}, 1, "\x04\x06"},
		{[]string{"\x01\x02", "\x04\x06", "?"}, 2, "\x05\x04"},
		{[]string{"a", ""}, 1, "a"},
		{[]string{"", "a"}, 0, "a"},
		{[]string{"long", ""}, 0, ""},
		{[]string{"", "long", ""}, 1, ""},
	}
	for _, c := range cases {
		if got, e := Again(c.l, c.at); got != c.want || e != api.OK {
			t.Errorf("Again(%q, %d) = %q, %d, want %q", c.l, c.at, got, e, c.want)
		}
	}
}

// Promise 3.2: with the one that Again makes, all are made one to zero bytes.
func TestAgainMakesZeros(t *testing.T) {
	for wide := 2; wide <= api.MaxWide+1; wide++ {
		for at := range wide {
			l := columns(wide, 9)
			got, e := Again(l, at)
			l[at] = got
			if e != api.OK || len(got) != 9 || parityOf(l) != strings.Repeat("\x00", 9) {
				t.Errorf("Again of %d columns at %d = %q, %d", wide, at, got, e)
			}
		}
	}
}

// Promise 3.2: Again refuses fewer than two columns, a place that is none, and others that are uneven.
func TestAgainRefuses(t *testing.T) {
	const top = int(^uint(0) >> 1)
	for _, c := range []struct {
		l  []string
		at int
	}{
		{nil, 0},
		{nil, -1},
		{[]string{}, 0},
		{[]string{"a"}, 0},
		{[]string{""}, 0},
		{[]string{"a"}, 1},
		{[]string{"a", "b"}, -1},
		{[]string{"a", "b"}, 2},
		{[]string{"a", "b"}, top},
		{[]string{"a", "b"}, -top - 1},
		{[]string{"a", "b", "c"}, 3},
		{[]string{"a", "b", "c"}, -1},
		{[]string{"?", "b", "cd"}, 0},
		{[]string{"?", "bc", "d"}, 0},
		{[]string{"a", "?", "cd"}, 1},
		{[]string{"ab", "?", "c"}, 1},
		{[]string{"a", "bc", "?"}, 2},
		{[]string{"", "b", "?"}, 2},
		// The one at the place is as long as some of the others: they are uneven yet.
		{[]string{"ab", "ab", "cd", "e"}, 0},
	} {
		if got, e := Again(c.l, c.at); got != "" || e != api.ErrArg {
			t.Errorf("Again(%q, %d) = %q, %d, want nothing and ErrArg", c.l, c.at, got, e)
		}
	}
}

// Promise 3.2: Blank.
func TestBlank(t *testing.T) {
	for _, s := range []string{"", "\x00", "\x00\x00", strings.Repeat("\x00", 1000)} {
		if !Blank(s) {
			t.Errorf("Blank of %d zero bytes = false", len(s))
		}
	}
	for b := 1; b < 256; b++ {
		if Blank(string([]byte{byte(b)})) {
			t.Errorf("Blank of byte %d = true", b)
		}
	}
	for at := range api.Sector {
		s := []byte(strings.Repeat("\x00", api.Sector))
		s[at] = 0x80
		if Blank(string(s)) {
			t.Errorf("Blank with a byte at %d = true", at)
		}
	}
}

// Promise 3.3: whichever column is lost, the parity among them, it is made again by the others.
func TestWhicheverIsLost(t *testing.T) {
	for wide := 1; wide <= api.MaxWide; wide++ {
		for _, n := range []int{0, 1, api.Sector} {
			l := columns(wide, n)
			p, e := Make(l...)
			if e != api.OK {
				t.Fatalf("Make of %d columns: %d", wide, e)
			}
			all := append(l, p)
			for at, want := range all {
				for _, lost := range []string{"", "?", strings.Repeat("?", n)} {
					rest := slices.Clone(all)
					rest[at] = lost
					if got, e := Again(rest, at); got != want || e != api.OK {
						t.Errorf("%d columns of %d bytes, lost at %d: %q, %d", wide, n, at, got, e)
					}
				}
			}
		}
	}
}

// Promise 3.3: no order says anything, neither of columns nor of them and their parity.
func TestNoOrder(t *testing.T) {
	l := columns(4, 6)
	p := parityOf(l)
	orders(l, func(o []string) {
		if got, e := Make(o...); got != p || e != api.OK || !Right(p, o...) {
			t.Errorf("Make(%q) = %q, %d, want %q", o, got, e, p)
		}
	})
	orders(append(slices.Clone(l), p), func(o []string) {
		// Any of them is the parity of the others.
		if !Right(o[0], o[1:]...) {
			t.Errorf("Right(%q, %q) = false", o[0], o[1:])
		}
		for at, want := range o {
			rest := slices.Clone(o)
			rest[at] = "?"
			if got, e := Again(rest, at); got != want || e != api.OK {
				t.Errorf("Again(%q, %d) = %q, %d, want %q", rest, at, got, e, want)
			}
		}
	})
}

// What is handed in isn't changed, the room behind it included.
func TestArgumentsStay(t *testing.T) {
	room := []string{"\x01", "\x02", "\x04", "room", "room"}
	want := slices.Clone(room)
	l := room[:3]
	for at := -1; at <= len(l); at++ {
		Again(l, at)
	}
	Again(room[:2], 0)
	Even(l...)
	Make(l...)
	Right("\x07", l...)
	if !slices.Equal(room, want) {
		t.Errorf("handed in %q, and then it is %q", want, room)
	}
}
