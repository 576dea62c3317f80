package le

import (
	"math"
	"strings"
	"testing"

	"polder/api"
)

// Promise 1.1: U32.
func TestLayU32(t *testing.T) {
	cases := []struct {
		n    int
		want string
	}{
		{0, "\x00\x00\x00\x00"},
		{1, "\x01\x00\x00\x00"},
		{258, "\x02\x01\x00\x00"},
		{0x0a0b0c0d, "\x0d\x0c\x0b\x0a"},
		{1 << 31, "\x00\x00\x00\x80"},
		{1<<32 - 1, "\xff\xff\xff\xff"},
		{1 << 32, ""},
		{1<<32 + 7, ""},
		{math.MaxInt, ""},
		{-1, ""},
		{-258, ""},
		{-1 << 32, ""},
		{math.MinInt, ""},
	}
	for _, c := range cases {
		if got := U32(c.n); got != c.want {
			t.Errorf("U32(%d) = %q, want %q", c.n, got, c.want)
		}
	}
}

// Promise 1.1: U64.
func TestLayU64(t *testing.T) {
	cases := []struct {
		x    uint64
		want string
	}{
		{0, "\x00\x00\x00\x00\x00\x00\x00\x00"},
		{258, "\x02\x01\x00\x00\x00\x00\x00\x00"},
		{1 << 32, "\x00\x00\x00\x00\x01\x00\x00\x00"},
		{0x0102030405060708, "\x08\x07\x06\x05\x04\x03\x02\x01"},
		{1 << 63, "\x00\x00\x00\x00\x00\x00\x00\x80"},
		{math.MaxUint64, "\xff\xff\xff\xff\xff\xff\xff\xff"},
	}
	for _, c := range cases {
		if got := U64(c.x); got != c.want {
			t.Errorf("U64(%d) = %q, want %q", c.x, got, c.want)
		}
	}
}

// Promise 1.1: Int.
func TestLayInt(t *testing.T) {
	cases := []struct {
		n    int
		want string
	}{
		{0, "\x00\x00\x00\x00\x00\x00\x00\x00"},
		{258, "\x02\x01\x00\x00\x00\x00\x00\x00"},
		{1 << 32, "\x00\x00\x00\x00\x01\x00\x00\x00"},
		{1<<62 - 1, "\xff\xff\xff\xff\xff\xff\xff\x3f"},
		{1 << 62, ""},
		{math.MaxInt, ""},
		{-1, ""},
		{math.MinInt, ""},
	}
	for _, c := range cases {
		if got := Int(c.n); got != c.want {
			t.Errorf("Int(%d) = %q, want %q", c.n, got, c.want)
		}
	}
}

// Promise 1.1: Pad.
func TestPad(t *testing.T) {
	zeros := func(n int) string { return strings.Repeat("\x00", n) }
	page := strings.Repeat("x", 4096)
	cases := []struct {
		s    string
		to   int
		want string
	}{
		{"abcde", 4, "abcde\x00\x00\x00"},
		{"abcd", 4, "abcd"},
		{"a", 4, "a\x00\x00\x00"},
		{"abc", 4, "abc\x00"},
		{"abcde", 3, "abcde\x00"},
		{"", 4, ""},
		{"", 4096, ""},
		{"abc", 1, "abc"},
		{"abc", 0, "abc"},
		{"abc", -1, "abc"},
		{"abc", -4, "abc"},
		{"abc", math.MinInt, "abc"},
		{"abc", math.MaxInt, "abc"},
		{"abc", 4097, "abc"},
		{"abc", 4096, "abc" + zeros(4093)},
		{page, 4096, page},
		{page + "y", 4096, page + "y" + zeros(4095)},
		{page, 4097, page},
		{"a\x00", 4, "a\x00\x00\x00"},
	}
	for _, c := range cases {
		if got := Pad(c.s, c.to); got != c.want {
			t.Errorf("Pad of %d bytes to %d: %d bytes, want %d", len(c.s), c.to, len(got), len(c.want))
		}
	}
}

// Promise 1.1: the padded length is the least multiple, and the text stands ahead of zero bytes.
func TestPadIsLeast(t *testing.T) {
	for to := 1; to <= 70; to++ {
		for n := range 150 {
			s := strings.Repeat("p", n)
			got := Pad(s, to)
			tail := strings.TrimPrefix(got, s)
			if len(got)%to != 0 || len(got)-n >= to || len(tail) != len(got)-n || strings.Trim(tail, "\x00") != "" {
				t.Fatalf("Pad of %d bytes to %d = %q", n, to, got)
			}
		}
	}
}

// Promise 1.2: numbers one behind the other.
func TestReadInOrder(t *testing.T) {
	b := New("\x02\x01\x00\x00" + "\x08\x07\x06\x05\x04\x03\x02\xf1" + "\xff\xff\xff\xff\xff\xff\xff\x3f" + "ab\x00c" + "\xff\xff\xff\xff" + "\x00\x00")
	if b.Left() != 30 || b.Zeros() {
		t.Fatalf("at first: %d left, zeros %t", b.Left(), b.Zeros())
	}
	if n, e := b.U32(); n != 258 || e != api.OK || b.Left() != 26 {
		t.Errorf("U32 = %d, %d, %d left", n, e, b.Left())
	}
	if x, e := b.U64(); x != 0xf102030405060708 || e != api.OK || b.Left() != 18 {
		t.Errorf("U64 = %x, %d, %d left", x, e, b.Left())
	}
	if n, e := b.Int(); n != 1<<62-1 || e != api.OK || b.Left() != 10 {
		t.Errorf("Int = %d, %d, %d left", n, e, b.Left())
	}
	if s, e := b.Take(4); s != "ab\x00c" || e != api.OK || b.Left() != 6 {
		t.Errorf("Take = %q, %d, %d left", s, e, b.Left())
	}
	if s, e := b.Take(0); s != "" || e != api.OK || b.Left() != 6 {
		t.Errorf("Take of none = %q, %d, %d left", s, e, b.Left())
	}
	if n, e := b.U32(); n != 1<<32-1 || e != api.OK || b.Left() != 2 || !b.Zeros() {
		t.Errorf("U32 = %d, %d, %d left", n, e, b.Left())
	}
	if s, e := b.Take(2); s != "\x00\x00" || e != api.OK || b.Left() != 0 || !b.Zeros() {
		t.Errorf("Take = %q, %d, %d left", s, e, b.Left())
	}
	if s, e := b.Take(0); s != "" || e != api.OK {
		t.Errorf("Take of none at the end = %q, %d", s, e)
	}
}

// Promise 1.2: where fewer bytes are left, nothing is read, and it stands where it was.
func TestReadShort(t *testing.T) {
	text := "\x01\x02\x03\x04\x05\x06\x07\x08"
	for n := range 9 {
		b := New(text[:n])
		if x, e := b.U64(); n < 8 && (x != 0 || e != api.ErrShort || b.Left() != n) {
			t.Errorf("U64 of %d bytes = %d, %d, %d left", n, x, e, b.Left())
		}
		b = New(text[:n])
		if x, e := b.Int(); n < 8 && (x != 0 || e != api.ErrShort || b.Left() != n) {
			t.Errorf("Int of %d bytes = %d, %d, %d left", n, x, e, b.Left())
		}
		b = New(text[:n])
		if x, e := b.U32(); n < 4 && (x != 0 || e != api.ErrShort || b.Left() != n) {
			t.Errorf("U32 of %d bytes = %d, %d, %d left", n, x, e, b.Left())
		}
		b = New(text[:n])
		if s, e := b.Take(n + 1); s != "" || e != api.ErrShort || b.Left() != n {
			t.Errorf("Take of %d of %d bytes = %q, %d, %d left", n+1, n, s, e, b.Left())
		}
		if s, e := b.Take(n); s != text[:n] || e != api.OK || b.Left() != 0 {
			t.Errorf("Take of all of %d bytes = %q, %d, %d left", n, s, e, b.Left())
		}
	}
}

// Promise 1.2: a refused call midway leaves what is left to be read as it was.
func TestRefusedStays(t *testing.T) {
	b := New("xy" + "\x00\x00\x00\x00\x00\x00\x00\x40" + "abc")
	b.Take(2)
	for _, n := range []int{-1, math.MinInt} {
		if s, e := b.Take(n); s != "" || e != api.ErrArg || b.Left() != 11 {
			t.Errorf("Take(%d) = %q, %d, %d left", n, s, e, b.Left())
		}
	}
	for _, n := range []int{12, math.MaxInt} {
		if s, e := b.Take(n); s != "" || e != api.ErrShort || b.Left() != 11 {
			t.Errorf("Take(%d) = %q, %d, %d left", n, s, e, b.Left())
		}
	}
	if n, e := b.Int(); n != 0 || e != api.ErrForm || b.Left() != 11 {
		t.Errorf("Int of 2^62 = %d, %d, %d left", n, e, b.Left())
	}
	if x, e := b.U64(); x != 1<<62 || e != api.OK || b.Left() != 3 {
		t.Errorf("U64 = %d, %d, %d left", x, e, b.Left())
	}
	if n, e := b.U32(); n != 0 || e != api.ErrShort || b.Left() != 3 {
		t.Errorf("U32 = %d, %d, %d left", n, e, b.Left())
	}
	if x, e := b.U64(); x != 0 || e != api.ErrShort || b.Left() != 3 {
		t.Errorf("U64 = %d, %d, %d left", x, e, b.Left())
	}
	if s, e := b.Take(3); s != "abc" || e != api.OK {
		t.Errorf("Take = %q, %d", s, e)
	}
}

// Promise 1.2: which wide numbers are counts.
func TestReadCount(t *testing.T) {
	for _, x := range []uint64{0, 1, 1 << 32, 1<<62 - 1} {
		b := New(U64(x))
		if n, e := b.Int(); n != int(x) || e != api.OK || b.Left() != 0 {
			t.Errorf("Int of %d = %d, %d, %d left", x, n, e, b.Left())
		}
	}
	for _, x := range []uint64{1 << 62, 1<<62 + 1, 1<<63 - 1, 1 << 63, math.MaxUint64} {
		b := New(U64(x))
		if n, e := b.Int(); n != 0 || e != api.ErrForm || b.Left() != 8 {
			t.Errorf("Int of %d = %d, %d, %d left", x, n, e, b.Left())
		}
	}
	b := New("\xff\xff\xff\xff\xff\xff\xff")
	if n, e := b.Int(); n != 0 || e != api.ErrShort || b.Left() != 7 {
		t.Errorf("Int of seven bytes = %d, %d, %d left", n, e, b.Left())
	}
}

// Promise 1.2: Zeros looks at all that is left, and at that alone.
func TestZeros(t *testing.T) {
	cases := []struct {
		s    string
		want bool
	}{
		{"", true},
		{"\x00", true},
		{strings.Repeat("\x00", 100), true},
		{"\x01", false},
		{"0", false},
		{"\x00\x00\x80", false},
		{"\x01\x00\x00", false},
		{"\x00\x01\x00", false},
	}
	for _, c := range cases {
		b := New(c.s)
		if b.Zeros() != c.want || b.Left() != len(c.s) {
			t.Errorf("Zeros of %q = %t, %d left", c.s, b.Zeros(), b.Left())
		}
	}
	b := New("a\x00\x00")
	if b.Take(1); !b.Zeros() {
		t.Errorf("Zeros behind what was read = false")
	}
}

// Promise 1.2: nil.
func TestNil(t *testing.T) {
	var b *Bytes
	if n, e := b.U32(); n != 0 || e != api.ErrShort {
		t.Errorf("U32 = %d, %d", n, e)
	}
	if x, e := b.U64(); x != 0 || e != api.ErrShort {
		t.Errorf("U64 = %d, %d", x, e)
	}
	if n, e := b.Int(); n != 0 || e != api.ErrShort {
		t.Errorf("Int = %d, %d", n, e)
	}
	for _, n := range []int{0, 1, math.MaxInt} {
		if s, e := b.Take(n); s != "" || e != api.ErrShort {
			t.Errorf("Take(%d) = %q, %d", n, s, e)
		}
	}
	for _, n := range []int{-1, math.MinInt} {
		if s, e := b.Take(n); s != "" || e != api.ErrArg {
			t.Errorf("Take(%d) = %q, %d", n, s, e)
		}
	}
	if b.Left() != 0 || !b.Zeros() {
		t.Errorf("%d left, zeros %t", b.Left(), b.Zeros())
	}
}

// Promise 1.2: New stands at the beginning each time; two of one text are apart.
func TestNewApart(t *testing.T) {
	s := "\x01\x00\x00\x00"
	a, b := New(s), New(s)
	if a == nil || b == nil {
		t.Fatal("New answered nil")
	}
	a.U32()
	if a.Left() != 0 || b.Left() != 4 {
		t.Errorf("%d and %d left", a.Left(), b.Left())
	}
}

// wides are the numbers of one bit, those beside them, and each single byte at each place.
func wides() []uint64 {
	l := []uint64{0, math.MaxUint64}
	for i := range 64 {
		l = append(l, 1<<i-1, 1<<i, 1<<i+1)
	}
	for i := range 8 {
		for v := range 256 {
			l = append(l, uint64(v)<<(8*i))
		}
	}
	return l
}

// Promise 1.3: what was laid is read again.
func TestLaidIsRead(t *testing.T) {
	for _, x := range wides() {
		if got, e := New(U64(x)).U64(); got != x || e != api.OK {
			t.Fatalf("U64 of %d is read as %d, %d", x, got, e)
		}
		if x < 1<<62 {
			if got, e := New(Int(int(x))).Int(); got != int(x) || e != api.OK {
				t.Fatalf("Int of %d is read as %d, %d", x, got, e)
			}
		}
		if x < 1<<32 {
			if got, e := New(U32(int(x))).U32(); got != int(x) || e != api.OK {
				t.Fatalf("U32 of %d is read as %d, %d", x, got, e)
			}
		}
	}
}

// Promise 1.3: what was laid in a row is read again in a row, with nothing left.
func TestRowIsRead(t *testing.T) {
	var s strings.Builder
	for _, x := range wides() {
		s.WriteString(U64(x) + U32(int(x&(1<<32-1))) + Int(int(x&(1<<62-1))))
	}
	b := New(s.String())
	for _, x := range wides() {
		wide, e1 := b.U64()
		small, e2 := b.U32()
		count, e3 := b.Int()
		if e1 != api.OK || e2 != api.OK || e3 != api.OK {
			t.Fatalf("errors %d, %d, %d", e1, e2, e3)
		}
		if wide != x || small != int(x&(1<<32-1)) || count != int(x&(1<<62-1)) {
			t.Fatalf("of %d: %d, %d, %d", x, wide, small, count)
		}
	}
	if b.Left() != 0 {
		t.Errorf("%d left", b.Left())
	}
}

// Promise 1.3: of two unlike numbers the bytes are unlike.
func TestUnlikeBytes(t *testing.T) {
	wide, count, small := map[string]uint64{}, map[string]uint64{}, map[string]uint64{}
	lay := func(m map[string]uint64, s string, x uint64) {
		if y, met := m[s]; met && y != x {
			t.Fatalf("%d and %d have the same bytes %q", x, y, s)
		}
		m[s] = x
	}
	for _, x := range wides() {
		lay(wide, U64(x), x)
		if x < 1<<62 {
			lay(count, Int(int(x)), x)
		}
		if x < 1<<32 {
			lay(small, U32(int(x)), x)
		}
	}
}
