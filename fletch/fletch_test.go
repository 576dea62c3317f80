package fletch

import (
	"math"
	"slices"
	"strings"
	"testing"

	"polder/api"
	"polder/le"
)

// sumOf works a sum out by the chapter's words alone, from numbers rather than from bytes.
func sumOf(x api.Sum, words ...uint64) api.Sum {
	for _, w := range words {
		x[0] += w
		x[1] += x[0]
		x[2] += x[1]
		x[3] += x[2]
	}
	return x
}

// text lays words as a text.
func text(words ...uint64) string {
	s := ""
	for _, w := range words {
		s += le.U32(int(w))
	}
	return s
}

// Promise 2.1: Words, its padding among them.
func TestWords(t *testing.T) {
	cases := []struct {
		s    string
		want []uint64
	}{
		{"", nil},
		{"\x01", []uint64{1}},
		{"\x00", []uint64{0}},
		{"\x01\x02", []uint64{0x0201}},
		{"\x01\x02\x03", []uint64{0x030201}},
		{"\x01\x02\x03\x04", []uint64{0x04030201}},
		{"\x01\x02\x03\x04\x05", []uint64{0x04030201, 5}},
		{"\x01\x00\x00\x00\x02\x00\x00\x00", []uint64{1, 2}},
		{"\xff\xff\xff\xff\x00\x00\x00\x80", []uint64{1<<32 - 1, 1 << 31}},
		{"\xc3\xa9\xff\x00\xfe", []uint64{0x00ffa9c3, 0xfe}},
	}
	for _, c := range cases {
		if got := slices.Collect(Words(c.s)); !slices.Equal(got, c.want) {
			t.Errorf("Words(%q) = %v, want %v", c.s, got, c.want)
		}
	}
}

// Promise 2.1: a range over Words may be left early, and begun again.
func TestWordsLeftEarly(t *testing.T) {
	words := Words(text(7, 8, 9))
	var got []uint64
	for w := range words {
		got = append(got, w)
		if w == 8 {
			break
		}
	}
	if !slices.Equal(got, []uint64{7, 8}) {
		t.Errorf("left early: %v", got)
	}
	for range words {
		break
	}
	if got := slices.Collect(words); !slices.Equal(got, []uint64{7, 8, 9}) {
		t.Errorf("begun again: %v", got)
	}
	// One range within another: each of them stands where it stands.
	pairs := 0
	for range words {
		for range words {
			pairs++
		}
	}
	if pairs != 9 {
		t.Errorf("one within another: %d pairs", pairs)
	}
}

// Promise 2.1: where there are no words, Words is no nil.
func TestWordsOfNothing(t *testing.T) {
	words := Words("")
	if words == nil {
		t.Fatal("Words of nothing is nil")
	}
	for w := range words {
		t.Errorf("Words of nothing hands out %d", w)
	}
}

// Promise 2.1: Sum, with the chapter's examples.
func TestSum(t *testing.T) {
	cases := []struct {
		s    string
		want api.Sum
	}{
		{"", api.Sum{}},
		{"\x00", api.Sum{}},
		{"\x00\x00\x00\x00\x00", api.Sum{}},
		{"\x01", api.Sum{1, 1, 1, 1}},
		{"\x01\x00\x00\x00\x02\x00\x00\x00", api.Sum{3, 4, 5, 6}},
		{"\x01\x00\x00\x00\x02", api.Sum{3, 4, 5, 6}},
		{text(1, 2, 3), api.Sum{6, 10, 15, 21}},
		{text(0, 0, 1, 0, 0), api.Sum{1, 3, 6, 10}},
		{"\xff\xff\xff\xff", api.Sum{1<<32 - 1, 1<<32 - 1, 1<<32 - 1, 1<<32 - 1}},
		{"abc", sumOf(api.Sum{}, 0x00636261)},
		{"abcdefg", sumOf(api.Sum{}, 0x64636261, 0x00676665)},
	}
	for _, c := range cases {
		if got := Sum(c.s); got != c.want {
			t.Errorf("Sum(%q) = %v, want %v", c.s, got, c.want)
		}
	}
}

// Promise 2.1: a long text's sum, whose last number goes round at 2^64.
func TestSumGoesRound(t *testing.T) {
	const n = 4000
	words := make([]uint64, n)
	for i := range words {
		words[i] = 1<<32 - 1
	}
	want := sumOf(api.Sum{}, words...)
	if got := Sum(strings.Repeat("\xff", 4*n)); got != want {
		t.Errorf("Sum of %d words = %v, want %v", n, got, want)
	}
	// Without an end at 2^64, the last number would come to this.
	if float64(1<<32-1)*n*(n+1)*(n+2)*(n+3)/24 < math.MaxUint64 {
		t.Errorf("%d words are too few to go round", n)
	}
}

// Promise 2.1: More.
func TestMore(t *testing.T) {
	const top = math.MaxUint64
	cases := []struct {
		x    api.Sum
		s    string
		want api.Sum
	}{
		{api.Sum{}, "", api.Sum{}},
		{api.Sum{1, 2, 3, 4}, "", api.Sum{1, 2, 3, 4}},
		{api.Sum{1, 2, 3, 4}, text(0), api.Sum{1, 3, 6, 10}},
		{api.Sum{1, 2, 3, 4}, text(5), api.Sum{6, 8, 11, 15}},
		{api.Sum{1, 1, 1, 1}, text(2), api.Sum{3, 4, 5, 6}},
		{api.Sum{top, 0, 0, 0}, text(1), api.Sum{0, 0, 0, 0}},
		{api.Sum{1, top, 0, 0}, text(0), api.Sum{1, 0, 0, 0}},
		{api.Sum{0, 1, top, 0}, text(0), api.Sum{0, 1, 0, 0}},
		{api.Sum{0, 0, 1, top}, text(0), api.Sum{0, 0, 1, 0}},
		{api.Sum{top, top, top, top}, text(0), api.Sum{top, top - 1, top - 2, top - 3}},
		{api.Sum{9, 8, 7, 6}, text(3, 1<<32-1), sumOf(api.Sum{9, 8, 7, 6}, 3, 1<<32-1)},
	}
	for _, c := range cases {
		if got, e := More(c.x, c.s); got != c.want || e != api.OK {
			t.Errorf("More(%v, %q) = %v, %d, want %v", c.x, c.s, got, e, c.want)
		}
	}
}

// Promise 2.1: More refuses a length that is no multiple of 4, though Sum takes it.
func TestMoreRefuses(t *testing.T) {
	for n := range 14 {
		s := strings.Repeat("\x01", n)
		x, e := More(api.Sum{1, 2, 3, 4}, s)
		if n%4 == 0 {
			if e != api.OK || x == (api.Sum{}) {
				t.Errorf("More by %d bytes = %v, %d", n, x, e)
			}
			continue
		}
		if e != api.ErrArg || x != (api.Sum{}) {
			t.Errorf("More by %d bytes = %v, %d, want zeros and ErrArg", n, x, e)
		}
		if Sum(s) != Sum(le.Pad(s, 4)) {
			t.Errorf("Sum of %d bytes is not that of them padded", n)
		}
	}
}

// Promise 2.2: Bytes.
func TestBytes(t *testing.T) {
	x := api.Sum{1, 0x0102030405060708, 0, math.MaxUint64}
	want := "\x01\x00\x00\x00\x00\x00\x00\x00" +
		"\x08\x07\x06\x05\x04\x03\x02\x01" +
		"\x00\x00\x00\x00\x00\x00\x00\x00" +
		"\xff\xff\xff\xff\xff\xff\xff\xff"
	if got := Bytes(x); got != want {
		t.Errorf("Bytes(%v) = %q, want %q", x, got, want)
	}
	if got := Bytes(api.Sum{}); got != strings.Repeat("\x00", 32) {
		t.Errorf("Bytes of zeros = %q", got)
	}
}

// Promise 2.2: Read, and that it reads no more than the sum.
func TestRead(t *testing.T) {
	for _, x := range []api.Sum{{}, {1, 2, 3, 4}, {math.MaxUint64, 1 << 63, 1 << 62, 1<<62 - 1}, Sum("polder")} {
		b := le.New(Bytes(x) + "tail")
		if got, e := Read(b); got != x || e != api.OK {
			t.Errorf("Read of %v = %v, %d", x, got, e)
		}
		if tail, e := b.Take(b.Left()); tail != "tail" || e != api.OK {
			t.Errorf("behind %v is left %q, %d", x, tail, e)
		}
	}
}

// Promise 2.2: Read of two sums, one behind the other.
func TestReadTwo(t *testing.T) {
	b := le.New(Bytes(api.Sum{1, 2, 3, 4}) + Bytes(api.Sum{5, 6, 7, 8}))
	one, e1 := Read(b)
	two, e2 := Read(b)
	if e1 != api.OK || e2 != api.OK || one != (api.Sum{1, 2, 3, 4}) || two != (api.Sum{5, 6, 7, 8}) {
		t.Errorf("two sums: %v, %d and %v, %d", one, e1, two, e2)
	}
	if x, e := Read(b); e != api.ErrShort || x != (api.Sum{}) {
		t.Errorf("behind the last one: %v, %d", x, e)
	}
}

// Promise 2.2: Read of too few bytes, and of nil.
func TestReadShort(t *testing.T) {
	for n := range 32 {
		x, e := Read(le.New(strings.Repeat("\x01", n)))
		if e != api.ErrShort || x != (api.Sum{}) {
			t.Errorf("Read of %d bytes = %v, %d, want zeros and ErrShort", n, x, e)
		}
	}
	if x, e := Read(nil); e != api.ErrShort || x != (api.Sum{}) {
		t.Errorf("Read(nil) = %v, %d, want zeros and ErrShort", x, e)
	}
}

// Promise 2.3: the sum of two texts, one behind the other, is More's.
func TestSumOfTwoTexts(t *testing.T) {
	whole := "the quick brown fox jumps over the lazy dog\xff\x00\x80\x7f!"
	for i := 0; i <= len(whole); i += 4 {
		for j := i; j <= len(whole); j += 4 {
			got, e := More(Sum(whole[:i]), whole[i:j])
			if e != api.OK || got != Sum(whole[:j]) {
				t.Errorf("bytes up to %d, and up to %d: %v, %d, want %v", i, j, got, e, Sum(whole[:j]))
			}
		}
	}
}

// Promise 2.3: one word changed gives another sum.
func TestOneWordChanged(t *testing.T) {
	words := []uint64{5, 0, 1<<32 - 1, 1 << 31, 5, 77, 0, 1}
	sum := Sum(text(words...))
	for i, old := range words {
		for _, w := range []uint64{0, 1, 4, 5, 6, 77, 1 << 16, 1 << 31, 1<<32 - 1} {
			if w == old {
				continue
			}
			other := slices.Clone(words)
			other[i] = w
			if Sum(text(other...)) == sum {
				t.Errorf("word %d changed from %d to %d: the sum is the same", i, old, w)
			}
		}
	}
}

// Promise 2.3: two words changed to each other's give another sum.
func TestTwoWordsChanged(t *testing.T) {
	words := []uint64{5, 0, 1<<32 - 1, 1 << 31, 5, 77, 0, 1}
	sum := Sum(text(words...))
	for i := range words {
		for j := range i {
			if words[i] == words[j] {
				continue
			}
			other := slices.Clone(words)
			other[i], other[j] = other[j], other[i]
			if Sum(text(other...)) == sum {
				t.Errorf("words %d and %d changed to each other's: the sum is the same", j, i)
			}
		}
	}
}
