package space

import (
	"math"
	"slices"
	"testing"

	"polder/api"
)

// plain is a map told sector by sector: whether each of them is used.
type plain []bool

// has tells whether that is a stretch, without a sum that could wrap.
func (p plain) has(at, n int) bool {
	return at >= 0 && at < len(p) && n >= 1 && n <= len(p) && at+n <= len(p)
}

// all tells whether all sectors of a stretch are used, or all are free.
func (p plain) all(at, n int, used bool) bool { return !slices.Contains(p[at:at+n], !used) }

func (p plain) set(at, n int, used bool) {
	for i := range n {
		p[at+i] = used
	}
}

func (p plain) take(at, n int) api.Errno {
	switch {
	case !p.has(at, n):
		return api.ErrArg
	case !p.all(at, n, false):
		return api.ErrUsed
	}
	p.set(at, n, true)
	return api.OK
}

func (p plain) free(at, n int) api.Errno {
	switch {
	case !p.has(at, n):
		return api.ErrArg
	case !p.all(at, n, true):
		return api.ErrNone
	}
	p.set(at, n, false)
	return api.OK
}

// find tries one sector after the other: those from from on, then all.
func (p plain) find(n, from int) (int, bool) {
	if n < 1 || from < 0 || from > len(p) {
		return 0, false
	}
	for _, first := range []int{from, 0} {
		for at := first; at < len(p); at++ {
			if p.has(at, n) && p.all(at, n, false) {
				return at, true
			}
		}
	}
	return 0, false
}

func (p plain) left() int {
	left := 0
	for _, used := range p {
		if !used {
			left++
		}
	}
	return left
}

func (p plain) runs() []Run {
	var l []Run
	for at, used := range p {
		switch {
		case !used:
		case at > 0 && p[at-1]:
			l[len(l)-1].N++
		default:
			l = append(l, Run{At: at, N: 1})
		}
	}
	return l
}

// laid answers a plain map by a letter for each sector: x is used.
func laid(s string) plain {
	p := make(plain, len(s))
	for i := range len(s) {
		p[i] = s[i] == 'x'
	}
	return p
}

// made answers a new map.
func made(t *testing.T, size int) *Map {
	t.Helper()
	m, e := New(size)
	if e != api.OK || m == nil {
		t.Fatalf("New(%d) = %v, %d", size, m, e)
	}
	return m
}

// used answers a map whose sectors are used as told, taken run by run.
func used(t *testing.T, p plain) *Map {
	t.Helper()
	m := made(t, len(p))
	for _, r := range p.runs() {
		take(t, m, r.At, r.N)
	}
	return m
}

func take(t *testing.T, m *Map, at, n int) {
	t.Helper()
	if e := m.Take(at, n); e != api.OK {
		t.Fatalf("Take(%d, %d) = %d of %v", at, n, e, m.Runs())
	}
}

func free(t *testing.T, m *Map, at, n int) {
	t.Helper()
	if e := m.Free(at, n); e != api.OK {
		t.Fatalf("Free(%d, %d) = %d of %v", at, n, e, m.Runs())
	}
}

// holds tells that a map is as a plain one, as far as Size, Left and Runs say.
func holds(t *testing.T, m *Map, want plain) {
	t.Helper()
	if m.Size() != len(want) || m.Left() != want.left() || !slices.Equal(m.Runs(), want.runs()) {
		t.Fatalf("Size, Left, Runs = %d, %d, %v, want %d, %d, %v", m.Size(), m.Left(), m.Runs(), len(want), want.left(), want.runs())
	}
}

// finds tells that Find answers as of a plain map, of all stretches from all sectors on, and of some that there aren't.
func finds(t *testing.T, m *Map, want plain) {
	t.Helper()
	for n := -2; n <= len(want)+2; n++ {
		for from := -2; from <= len(want)+2; from++ {
			found(t, m, want, n, from)
		}
	}
}

// found tells that one Find answers as of a plain map.
func found(t *testing.T, m *Map, want plain, n, from int) {
	t.Helper()
	at, ok := m.Find(n, from)
	if wantAt, wantOK := want.find(n, from); at != wantAt || ok != wantOK {
		t.Fatalf("Find(%d, %d) = %d, %t of %v of %d, want %d, %t", n, from, at, ok, m.Runs(), m.Size(), wantAt, wantOK)
	}
}

// wrongNumbers: numbers of sectors that there never are, and sizes that never may be.
var wrongNumbers = []int{math.MinInt, math.MinInt + 1, -1 << 32, -1 << 31, -65536, -2, -1, 65537, 1 << 31, 1 << 32, 1<<32 + 1, math.MaxInt - 1, math.MaxInt}

// noStretches answers stretches that a map of that size doesn't have.
func noStretches(size int) [][2]int {
	l := [][2]int{
		{0, 0}, {size - 1, 0}, {size, 0}, {0, -1}, {size, -1}, {size, -size}, {2 * size, -size},
		{-1, 1}, {-1, 2}, {-1, size}, {-1, size + 1}, {-1, size + 2}, {-size, size}, {-size, 2 * size},
		{size, 1}, {size + 1, 1}, {size + 1, size},
		{size - 1, 2}, {0, size + 1}, {1, size}, {size, size},
	}
	for _, n := range wrongNumbers {
		l = append(l, [2]int{n, 1}, [2]int{n, size}, [2]int{0, n}, [2]int{size - 1, n}, [2]int{size, n})
		for _, at := range wrongNumbers {
			l = append(l, [2]int{at, n})
		}
		// Where the sum wraps, it would be 1, or size.
		l = append(l, [2]int{n, 1 - n}, [2]int{n, size - n}, [2]int{1 - n, n}, [2]int{size - n, n})
	}
	return slices.DeleteFunc(l, func(x [2]int) bool { return plain(make([]bool, size)).has(x[0], x[1]) })
}

// Promise 11.1: New, of the least and the greatest size, and some between: all sectors are free.
func TestNew(t *testing.T) {
	for _, size := range []int{1, 2, 3, 20, 4096, 65535, 65536} {
		m := made(t, size)
		holds(t, m, make(plain, size))
		if at, ok := m.Find(size, 0); at != 0 || !ok {
			t.Errorf("of %d: Find of all = %d, %t", size, at, ok)
		}
		if at, ok := m.Find(1, size-1); at != size-1 || !ok {
			t.Errorf("of %d: Find of the last one = %d, %t", size, at, ok)
		}
	}
}

// Promise 11.1: New refuses each size that isn't 1 to 65536.
func TestNewRefuses(t *testing.T) {
	for _, size := range append([]int{0, 65538, 131072}, wrongNumbers...) {
		if m, e := New(size); m != nil || e != api.ErrArg {
			t.Errorf("New(%d) = %v, %d, want nil and ErrArg", size, m, e)
		}
	}
}

// Promise 11.1: two maps are apart.
func TestMapsApart(t *testing.T) {
	a, b := made(t, 4), made(t, 4)
	take(t, a, 0, 4)
	holds(t, b, laid("...."))
	take(t, b, 1, 1)
	free(t, a, 3, 1)
	holds(t, a, laid("xxx."))
	holds(t, b, laid(".x.."))
}

// Promises 11.1 and 11.2: the chapter's example.
func TestExample(t *testing.T) {
	m := made(t, 10)
	take(t, m, 2, 3)
	if at, ok := m.Find(3, 0); at != 5 || !ok {
		t.Errorf("Find(3, 0) = %d, %t", at, ok)
	}
	if at, ok := m.Find(2, 0); at != 0 || !ok {
		t.Errorf("Find(2, 0) = %d, %t", at, ok)
	}
}

// Promise 11.1: one sector, or all, at the first sector and at the last, of maps of all kinds of sizes, taken and freed.
func TestStretches(t *testing.T) {
	for _, size := range []int{1, 2, 3, 20, 65535, 65536} {
		for _, x := range [][2]int{{0, 1}, {size - 1, 1}, {0, size}, {size / 2, 1}, {0, (size + 1) / 2}, {size / 2, size - size/2}} {
			m, want := made(t, size), make(plain, size)
			take(t, m, x[0], x[1])
			want.set(x[0], x[1], true)
			holds(t, m, want)
			if e := m.Take(x[0], x[1]); e != api.ErrUsed {
				t.Errorf("of %d: a second Take%v = %d", size, x, e)
			}
			free(t, m, x[0], x[1])
			holds(t, m, make(plain, size))
			if e := m.Free(x[0], x[1]); e != api.ErrNone {
				t.Errorf("of %d: a second Free%v = %d", size, x, e)
			}
		}
	}
}

// change is a map, a stretch that is taken or freed, the answer, and the map behind it.
type change struct {
	name  string
	from  string
	at, n int
	e     api.Errno
	to    string
}

// changed tells that a call answers what each change says, and that the map is behind it as that says.
func changed(t *testing.T, cases []change, call func(m *Map, at, n int) api.Errno) {
	t.Helper()
	for _, c := range cases {
		m := used(t, laid(c.from))
		if e := call(m, c.at, c.n); e != c.e {
			t.Errorf("%s: %d, want %d", c.name, e, c.e)
		}
		holds(t, m, laid(c.to))
		finds(t, m, laid(c.to))
	}
}

// Promise 11.1: what is taken becomes one run with what it touches, and only with that.
func TestTake(t *testing.T) {
	changed(t, []change{
		{"right behind a run", "..xx......", 4, 2, api.OK, "..xxxx...."},
		{"right ahead of a run", "....xx....", 2, 2, api.OK, "..xxxx...."},
		{"right between two", "xx..xx....", 2, 2, api.OK, "xxxxxx...."},
		{"right between two, one sector", ".x.x......", 2, 1, api.OK, ".xxx......"},
		{"right between two, others about", "x.xx..xx.x", 4, 2, api.OK, "x.xxxxxx.x"},
		{"a sector apart behind a run", "xx........", 3, 2, api.OK, "xx.xx....."},
		{"a sector apart ahead of a run", ".....xx...", 2, 2, api.OK, "..xx.xx..."},
		{"a sector apart from both", "xx...xx...", 3, 1, api.OK, "xx.x.xx..."},
		{"right behind a run, a sector apart of the next", "xx...xx...", 2, 2, api.OK, "xxxx.xx..."},
		{"right ahead of a run, a sector apart of the one ahead", "xx...xx...", 3, 2, api.OK, "xx.xxxx..."},
		{"right behind the first sector", "x.........", 1, 1, api.OK, "xx........"},
		{"right ahead of the last sector", ".........x", 8, 1, api.OK, "........xx"},
		{"ahead of all", "..x.x.x.x.", 0, 1, api.OK, "x.x.x.x.x."},
		{"amid many", "x.x...x.x.", 4, 1, api.OK, "x.x.x.x.x."},
		{"behind all", "x.x.x.x...", 8, 1, api.OK, "x.x.x.x.x."},
		{"all that is left", "xxx....xxx", 3, 4, api.OK, "xxxxxxxxxx"},
	}, (*Map).Take)
}

// Promise 11.1: Take, where a sector is used: nothing is changed, those that are free neither.
func TestTakeUsed(t *testing.T) {
	changed(t, []change{
		{"only the first is used", "xxx.......", 2, 3, api.ErrUsed, "xxx......."},
		{"only the first is used, one sector of it", "..x.......", 2, 3, api.ErrUsed, "..x......."},
		{"only the last is used", "....xxx...", 2, 3, api.ErrUsed, "....xxx..."},
		{"only the last is used, one sector of it", "....x.....", 2, 3, api.ErrUsed, "....x....."},
		{"only one amid it is used", "...x......", 2, 3, api.ErrUsed, "...x......"},
		{"both ends are used", "..x.x.....", 2, 3, api.ErrUsed, "..x.x....."},
		{"all are used", ".xxxxx....", 2, 3, api.ErrUsed, ".xxxxx...."},
		{"one sector", ".xxx......", 2, 1, api.ErrUsed, ".xxx......"},
		{"the first sector", "x.........", 0, 1, api.ErrUsed, "x........."},
		{"the last sector", ".........x", 9, 1, api.ErrUsed, ".........x"},
		{"the whole map, its first sector used", "x.........", 0, 10, api.ErrUsed, "x........."},
		{"the whole map, its last sector used", ".........x", 0, 10, api.ErrUsed, ".........x"},
		{"of a full map", "xxxxxxxxxx", 4, 1, api.ErrUsed, "xxxxxxxxxx"},
	}, (*Map).Take)
}

// Promise 11.1: what is freed goes out of its run, and out of no other one.
func TestFree(t *testing.T) {
	changed(t, []change{
		{"a run's beginning", "..xxxx....", 2, 2, api.OK, "....xx...."},
		{"a run's end", "..xxxx....", 4, 2, api.OK, "..xx......"},
		{"a run's middle", "..xxxx....", 3, 2, api.OK, "..x..x...."},
		{"a run's middle, one sector", ".xxx......", 2, 1, api.OK, ".x.x......"},
		{"all of a run", "..xxxx....", 2, 4, api.OK, ".........."},
		{"all of a run of one sector", "....x.....", 4, 1, api.OK, ".........."},
		{"the first of many runs", "x.x.x.x.x.", 0, 1, api.OK, "..x.x.x.x."},
		{"one of many runs", "x.x.x.x.x.", 4, 1, api.OK, "x.x...x.x."},
		{"the last of many runs", "x.x.x.x.x.", 8, 1, api.OK, "x.x.x.x..."},
		{"the middle of a run among others", "x.xxx.x.xx", 3, 1, api.OK, "x.x.x.x.xx"},
		{"the beginning of a run among others", "x.xxx.x.xx", 2, 1, api.OK, "x..xx.x.xx"},
		{"the end of a run among others", "x.xxx.x.xx", 4, 1, api.OK, "x.xx..x.xx"},
		{"the first sector of a full map", "xxxxxxxxxx", 0, 1, api.OK, ".xxxxxxxxx"},
		{"the last sector of a full map", "xxxxxxxxxx", 9, 1, api.OK, "xxxxxxxxx."},
		{"the middle of a full map", "xxxxxxxxxx", 3, 4, api.OK, "xxx....xxx"},
		{"all of a full map", "xxxxxxxxxx", 0, 10, api.OK, ".........."},
	}, (*Map).Free)
}

// Promise 11.1: Free, where a sector is free: nothing is changed, those that are used neither.
func TestFreeNone(t *testing.T) {
	changed(t, []change{
		{"only the first is free", "...xxx....", 2, 3, api.ErrNone, "...xxx...."},
		{"only the first is free, one run ahead", "xx.xxx....", 2, 3, api.ErrNone, "xx.xxx...."},
		{"only the last is free", ".xxx......", 2, 3, api.ErrNone, ".xxx......"},
		{"only the last is free, one run behind", ".xxx.xx...", 2, 3, api.ErrNone, ".xxx.xx..."},
		{"only one amid it is free", "..x.x.....", 2, 3, api.ErrNone, "..x.x....."},
		{"both ends are free", "...x......", 2, 3, api.ErrNone, "...x......"},
		{"all are free, between two runs", "x.....x...", 2, 3, api.ErrNone, "x.....x..."},
		{"all are free, ahead of all runs", ".....x....", 1, 3, api.ErrNone, ".....x...."},
		{"all are free, behind all runs", "x.........", 2, 3, api.ErrNone, "x........."},
		{"one sector", "xx.xx.....", 2, 1, api.ErrNone, "xx.xx....."},
		{"the whole map, its first sector free", ".xxxxxxxxx", 0, 10, api.ErrNone, ".xxxxxxxxx"},
		{"the whole map, its last sector free", "xxxxxxxxx.", 0, 10, api.ErrNone, "xxxxxxxxx."},
		{"of a map of which nothing is used", "..........", 4, 1, api.ErrNone, ".........."},
	}, (*Map).Free)
}

// Promise 11.1: what is no stretch of the map is refused as that, whether its sectors are free or used, and changes nothing.
func TestNoStretches(t *testing.T) {
	for _, size := range []int{1, 2, 10, 65536} {
		half, full := make(plain, size), make(plain, size)
		half.set(0, (size+1)/2, true)
		full.set(0, size, true)
		for _, p := range []plain{make(plain, size), half, full} {
			m := used(t, p)
			for _, x := range noStretches(size) {
				if e := m.Take(x[0], x[1]); e != api.ErrArg {
					t.Errorf("of %d: Take%v = %d", size, x, e)
				}
				if e := m.Free(x[0], x[1]); e != api.ErrArg {
					t.Errorf("of %d: Free%v = %d", size, x, e)
				}
			}
			holds(t, m, p)
		}
	}
}

// Promise 11.2: Find, from sectors on that the chapter and its words name.
func TestFind(t *testing.T) {
	cases := []struct {
		name    string
		p       string
		n, from int
		at      int
		ok      bool
	}{
		{"from 0", "..x...x...", 2, 0, 0, true},
		{"from 0, too little ahead of the first run", "..x...x...", 3, 0, 3, true},
		{"from 0, which is used", "xx....x...", 3, 0, 2, true},
		{"from the beginning of a run", "...xxx....", 2, 3, 6, true},
		{"from the middle of a run", "...xxx....", 2, 4, 6, true},
		{"from the last sector of a run", "...xxx....", 2, 5, 6, true},
		{"from right behind a run", "...xxx....", 2, 6, 6, true},
		{"from behind the last run", "...xxx....", 2, 7, 7, true},
		{"from behind the last run, as much as is there", "...xxx....", 3, 7, 7, true},
		{"from behind the last run, more than is there", "...xxx....", 3, 8, 0, true},
		{"from the last sector", "...xxx....", 1, 9, 9, true},
		{"from size", "...xxx....", 1, 10, 0, true},
		{"from size, the first sector used", "x.........", 4, 10, 1, true},
		{"from size, none", "x.x.x.x.x.", 2, 10, 0, false},
		{"one only ahead of from", "....x.x.x.", 3, 5, 0, true},
		{"one only ahead of from, that which is the last one", "xx...xxxxx", 3, 3, 2, true},
		{"the first one of all, not the nearest one ahead", "...x...x.x", 3, 7, 0, true},
		{"it begins ahead of from, and goes on behind it", "x.....x...", 3, 2, 2, true},
		{"it begins ahead of from, and goes on behind it just long enough", "x.....x...", 3, 3, 3, true},
		{"it begins ahead of from, and goes on behind it too short", "x.....x...", 3, 4, 7, true},
		{"it begins ahead of from, goes on behind it too short, and is the only one", "x.....x.x.", 3, 4, 1, true},
		{"as long as a gap", "x..x...x..", 3, 1, 4, true},
		{"longer than each gap", "x..x...x..", 4, 1, 0, false},
		{"the last sectors", "xxxxxxxx..", 2, 0, 8, true},
		{"the first sectors", "..xxxxxxxx", 2, 5, 0, true},
		{"all, of an empty map", "..........", 10, 0, 0, true},
		{"all, of an empty map, from its middle", "..........", 10, 5, 0, true},
		{"all but one, of an empty map", "..........", 9, 1, 1, true},
		{"more than all", "..........", 11, 0, 0, false},
		{"one of a full map", "xxxxxxxxxx", 1, 0, 0, false},
		{"one of a full map, from its middle", "xxxxxxxxxx", 1, 5, 0, false},
		{"one of a full map, from size", "xxxxxxxxxx", 1, 10, 0, false},
	}
	for _, c := range cases {
		m := used(t, laid(c.p))
		if at, ok := m.Find(c.n, c.from); at != c.at || ok != c.ok {
			t.Errorf("%s: Find(%d, %d) = %d, %t, want %d, %t", c.name, c.n, c.from, at, ok, c.at, c.ok)
		}
		holds(t, m, laid(c.p))
	}
}

// Promise 11.2: Find of what there never is, and from where no sector ever is: 0 and false.
func TestFindNone(t *testing.T) {
	for _, p := range []plain{laid("."), laid("x"), laid(".........."), laid("...x.....x"), make(plain, 65536)} {
		m, size := used(t, p), len(p)
		nothing := func(n, from int) {
			t.Helper()
			if at, ok := m.Find(n, from); at != 0 || ok {
				t.Errorf("Find(%d, %d) of %d = %d, %t", n, from, size, at, ok)
			}
		}
		for _, n := range append([]int{0, size + 1, 2 * size}, wrongNumbers...) {
			for _, from := range []int{0, 1, size / 2, size - 1, size} {
				nothing(n, from)
			}
		}
		for _, from := range append([]int{size + 1, 2 * size, -size}, wrongNumbers...) {
			for _, n := range append([]int{0, 1, size - 1, size, size + 1, from, size - from, -from}, wrongNumbers...) {
				nothing(n, from)
			}
		}
		holds(t, m, p)
	}
}

// Promise 11.2: the greatest map, full and with gaps at its ends and in its middle.
func TestGreatest(t *testing.T) {
	const size = 65536
	m, want := made(t, size), make(plain, size)
	take(t, m, 0, size)
	want.set(0, size, true)
	holds(t, m, want)
	found(t, m, want, 1, 0)
	for _, x := range [][2]int{{0, 1}, {size - 1, 1}, {size / 2, 3}, {size - 5, 2}} {
		free(t, m, x[0], x[1])
		want.set(x[0], x[1], false)
		holds(t, m, want)
	}
	for n := 1; n <= 4; n++ {
		for _, from := range []int{0, 1, size / 2, size/2 + 1, size/2 + 2, size/2 + 3, size - 6, size - 5, size - 4, size - 3, size - 1, size} {
			found(t, m, want, n, from)
		}
	}
}

// orders goes through all orders of so many things.
func orders(n int, yield func([]int)) {
	var lay func(done []int)
	lay = func(done []int) {
		if len(done) == n {
			yield(done)
			return
		}
		for i := range n {
			if !slices.Contains(done, i) {
				lay(append(slices.Clone(done), i))
			}
		}
	}
	lay(nil)
}

// Promises 11.1 and 11.2: whatever the order in which stretches are taken, and freed, the map is the same, and what is freed is as if it had never been taken.
func TestOrders(t *testing.T) {
	stretches := []Run{{At: 0, N: 2}, {At: 2, N: 3}, {At: 5, N: 1}, {At: 7, N: 1}, {At: 8, N: 4}}
	orders(len(stretches), func(taken []int) {
		m, want := made(t, 14), make(plain, 14)
		for _, i := range taken {
			take(t, m, stretches[i].At, stretches[i].N)
			want.set(stretches[i].At, stretches[i].N, true)
			holds(t, m, want)
		}
		if !slices.Equal(m.Runs(), []Run{{At: 0, N: 6}, {At: 7, N: 5}}) || m.Left() != 3 {
			t.Fatalf("taken in the order %v: %v, %d", taken, m.Runs(), m.Left())
		}
	})
	orders(len(stretches), func(freed []int) {
		m, want := used(t, laid("xxxxxx.xxxxx..")), laid("xxxxxx.xxxxx..")
		for _, i := range freed {
			free(t, m, stretches[i].At, stretches[i].N)
			want.set(stretches[i].At, stretches[i].N, false)
			holds(t, m, want)
		}
		holds(t, m, make(plain, 14))
		finds(t, m, make(plain, 14))
	})
}

// Promise 11.1: what is taken and freed again, where something else is used, leaves the map as it was.
func TestTakenAndFreed(t *testing.T) {
	for _, s := range []string{"......", "xx..x.", "x.x.x.", ".x..x.", "..xx..", "xxxxx."} {
		for at := range len(s) {
			for n := 1; at+n <= len(s); n++ {
				m, p := used(t, laid(s)), laid(s)
				if m.Take(at, n) == api.OK {
					free(t, m, at, n)
				}
				holds(t, m, p)
				if m.Free(at, n) == api.OK {
					take(t, m, at, n)
				}
				holds(t, m, p)
			}
		}
	}
}

// Promise 11.2: a copy is like its map, and apart from it, whichever of both is changed, in whatever way.
func TestCopy(t *testing.T) {
	changes := map[string]func(m *Map) api.Errno{
		".xx.x..xxx.x": func(m *Map) api.Errno { return m.Take(11, 1) },
		"xxx.x..xxx..": func(m *Map) api.Errno { return m.Take(0, 1) },
		".xxxx..xxx..": func(m *Map) api.Errno { return m.Take(3, 1) },
		".xx.xx.xxx..": func(m *Map) api.Errno { return m.Take(5, 1) },
		".xx....xxx..": func(m *Map) api.Errno { return m.Free(4, 1) },
		"..x.x..xxx..": func(m *Map) api.Errno { return m.Free(1, 1) },
		".xx.x..x.x..": func(m *Map) api.Errno { return m.Free(8, 1) },
		".xx.x.......": func(m *Map) api.Errno { return m.Free(7, 3) },
	}
	const first = ".xx.x..xxx.."
	for a, changeA := range changes {
		for b, changeB := range changes {
			m := used(t, laid(first))
			c := m.Copy()
			holds(t, c, laid(first))
			finds(t, c, laid(first))
			if e := changeA(c); e != api.OK {
				t.Fatalf("to %s: %d", a, e)
			}
			holds(t, c, laid(a))
			holds(t, m, laid(first))
			if e := changeB(m); e != api.OK {
				t.Fatalf("to %s: %d", b, e)
			}
			holds(t, m, laid(b))
			holds(t, c, laid(a))
		}
	}
}

// Promise 11.2: copies of maps that have been through much, so that their lists may have room behind them, are apart as both grow.
func TestCopyGrows(t *testing.T) {
	const size = 200
	for runs := range 40 {
		m, wantM := made(t, size), make(plain, size)
		for i := range runs {
			take(t, m, 2*i, 1)
			wantM.set(2*i, 1, true)
		}
		c, wantC := m.Copy(), slices.Clone(wantM)
		for i := range 10 {
			take(t, m, 100+3*i, 1)
			wantM.set(100+3*i, 1, true)
			take(t, c, 100+4*i, 2)
			wantC.set(100+4*i, 2, true)
		}
		holds(t, m, wantM)
		holds(t, c, wantC)
	}
}

// Promise 11.2: the greatest map's and the least one's copies, empty and full.
func TestCopySizes(t *testing.T) {
	for _, size := range []int{1, 65536} {
		full := make(plain, size)
		full.set(0, size, true)
		for _, p := range []plain{make(plain, size), full} {
			m := used(t, p)
			c := m.Copy()
			if c == m {
				t.Errorf("of %d: the copy is the map itself", size)
			}
			holds(t, c, p)
		}
	}
}

// Promise 11.2: the list that Runs answered stays as it was, whatever befalls the map.
func TestRunsKept(t *testing.T) {
	m := used(t, laid("xx..xx..xx"))
	want := []Run{{At: 0, N: 2}, {At: 4, N: 2}, {At: 8, N: 2}}
	l := m.Runs()
	steps := []func(){
		func() { take(t, m, 2, 1) },
		func() { take(t, m, 3, 1) },
		func() { free(t, m, 1, 1) },
		func() { free(t, m, 3, 2) },
		func() { take(t, m, 1, 1) },
		func() { free(t, m, 0, 3) },
		func() { free(t, m, 8, 2) },
		func() { free(t, m, 5, 1) },
		func() { take(t, m, 0, 10) },
	}
	for i, step := range steps {
		step()
		if !slices.Equal(l, want) {
			t.Fatalf("behind the step %d: %v", i, l)
		}
	}
	holds(t, m, laid("xxxxxxxxxx"))
}

// Promise 11.2: what the caller writes into the list, its spare room included, changes neither the map nor another list.
func TestRunsChanged(t *testing.T) {
	for _, s := range []string{"..........", "xx........", "xx..xx..xx", "x.x.x.x.x.", "xxxxxxxxxx"} {
		m := used(t, laid(s))
		a, b := m.Runs(), m.Runs()
		c := m.Copy()
		for i := range a[:cap(a)] {
			a[:cap(a)][i] = Run{At: -7, N: 99}
		}
		_ = append(a, Run{At: -8, N: 98})
		if !slices.Equal(b, laid(s).runs()) {
			t.Errorf("of %s: the other list is %v", s, b)
		}
		holds(t, m, laid(s))
		holds(t, c, laid(s))
		finds(t, m, laid(s))
	}
}

// Promises 11.1 and 11.2: each call of nil.
func TestNil(t *testing.T) {
	var m *Map
	for _, n := range append([]int{0, 1, 2, 65536}, wrongNumbers...) {
		for _, at := range append([]int{0, 1}, wrongNumbers...) {
			if e := m.Take(at, n); e != api.ErrArg {
				t.Errorf("Take(%d, %d) = %d", at, n, e)
			}
			if e := m.Free(at, n); e != api.ErrArg {
				t.Errorf("Free(%d, %d) = %d", at, n, e)
			}
			if found, ok := m.Find(n, at); found != 0 || ok {
				t.Errorf("Find(%d, %d) = %d, %t", n, at, found, ok)
			}
		}
	}
	if m.Left() != 0 || m.Size() != 0 || len(m.Runs()) != 0 || m.Copy() != nil {
		t.Errorf("Left, Size, Runs, Copy = %d, %d, %v, %v", m.Left(), m.Size(), m.Runs(), m.Copy())
	}
}

// states goes through all maps of up to so many sectors.
func states(most int, yield func(plain)) {
	for size := 1; size <= most; size++ {
		for bits := range 1 << size {
			p := make(plain, size)
			for at := range p {
				p[at] = bits>>at&1 == 1
			}
			yield(p)
		}
	}
}

// Promises 11.1 to 11.3: of all small maps, each Take and each Free of each stretch, and of some that there aren't, answers and leaves what the sectors one by one say.
func TestAllChanges(t *testing.T) {
	states(8, func(p plain) {
		m := used(t, p)
		holds(t, m, p)
		finds(t, m, p)
		for at := -1; at <= len(p)+1; at++ {
			for n := -1; n <= len(p)+1; n++ {
				c, want := m.Copy(), slices.Clone(p)
				if e, wantE := c.Take(at, n), want.take(at, n); e != wantE {
					t.Fatalf("Take(%d, %d) = %d of %v, want %d", at, n, e, p, wantE)
				}
				holds(t, c, want)
				c, want = m.Copy(), slices.Clone(p)
				if e, wantE := c.Free(at, n), want.free(at, n); e != wantE {
					t.Fatalf("Free(%d, %d) = %d of %v, want %d", at, n, e, p, wantE)
				}
				holds(t, c, want)
			}
		}
		holds(t, m, p)
	})
}

// Promises 11.1 and 11.3: a map is the same, whether its sectors were taken rising or falling, or the others of a full one were freed.
func TestAllWays(t *testing.T) {
	states(8, func(p plain) {
		rising, falling, freed := made(t, len(p)), made(t, len(p)), made(t, len(p))
		take(t, freed, 0, len(p))
		for i := range p {
			if back := len(p) - 1 - i; p[back] {
				take(t, falling, back, 1)
			}
			if p[i] {
				take(t, rising, i, 1)
			} else {
				free(t, freed, i, 1)
			}
		}
		for _, m := range []*Map{rising, falling, freed} {
			holds(t, m, p)
			finds(t, m, p)
		}
	})
}

// Promise 11.3: what is used is refused to be taken, and what is free to be freed, sector by sector.
func TestUsedOnce(t *testing.T) {
	states(8, func(p plain) {
		m := used(t, p)
		for at, used := range p {
			if used && m.Take(at, 1) != api.ErrUsed || !used && m.Free(at, 1) != api.ErrNone {
				t.Fatalf("the sector %d of %v was taken, or freed, twice", at, p)
			}
		}
		holds(t, m, p)
	})
}

// madeUp tells that the runs and what is left make up the size, and that the runs rise, and are the longest ones.
func madeUp(t *testing.T, m *Map) {
	t.Helper()
	sum, behind := m.Left(), -1
	for _, r := range m.Runs() {
		if r.N < 1 || r.At <= behind || r.At < 0 || r.At+r.N > m.Size() {
			t.Fatalf("the run %v of %v", r, m.Runs())
		}
		sum += r.N
		behind = r.At + r.N
	}
	if sum != m.Size() {
		t.Fatalf("the runs %v and %d left are no %d", m.Runs(), m.Left(), m.Size())
	}
}

// Promise 11.3: what is found can be taken, till nothing is found any more; then, of one sector, the map is full.
func TestFilled(t *testing.T) {
	for _, size := range []int{1, 2, 7, 100, 1000} {
		for _, n := range []int{1, 2, 3, 7} {
			for _, by := range []int{0, 1, 5, 37} {
				filled(t, size, n, by)
			}
		}
	}
}

// filled fills a map of which each fifth sector is used by stretches of n, each looked for so much behind the last one.
func filled(t *testing.T, size, n, by int) {
	t.Helper()
	m, want := made(t, size), make(plain, size)
	for at := 3; at < size; at += 5 {
		take(t, m, at, 1)
		want.set(at, 1, true)
	}
	for from := 0; ; from = (from + n + by) % (size + 1) {
		found(t, m, want, n, from)
		at, ok := m.Find(n, from)
		if !ok {
			break
		}
		if e := m.Take(at, n); e != api.OK {
			t.Fatalf("Take(%d, %d) of what was found = %d", at, n, e)
		}
		if e := want.take(at, n); e != api.OK {
			t.Fatalf("%d of %d was found, and is used", n, at)
		}
	}
	holds(t, m, want)
	madeUp(t, m)
	if n == 1 && (m.Left() != 0 || !slices.Equal(m.Runs(), []Run{{At: 0, N: size}})) {
		t.Errorf("of %d: %v, %d, behind all was taken", size, m.Runs(), m.Left())
	}
}

// Promises 11.1 to 11.3: a long course of takes, frees and finds, of maps of several sizes, answers as sectors told one by one.
func TestCourse(t *testing.T) {
	for _, size := range []int{1, 3, 10, 40, 300, 65536} {
		m, want := made(t, size), make(plain, size)
		next := numbers(uint64(size))
		for step := range 3000 {
			at, n := next(size+2)-1, next(min(size, 9)+2)-1
			switch next(5) {
			case 0, 1:
				if e, wantE := m.Take(at, n), want.take(at, n); e != wantE {
					t.Fatalf("of %d, step %d: Take(%d, %d) = %d, want %d", size, step, at, n, e, wantE)
				}
			case 2:
				if e, wantE := m.Free(at, n), want.free(at, n); e != wantE {
					t.Fatalf("of %d, step %d: Free(%d, %d) = %d, want %d", size, step, at, n, e, wantE)
				}
			case 3:
				// Of a great map most stretches are free: of a run, a piece that is used.
				if l := m.Runs(); len(l) > 0 {
					r := l[next(len(l))]
					skip := next(r.N)
					n := 1 + next(r.N-skip)
					if e, wantE := m.Free(r.At+skip, n), want.free(r.At+skip, n); e != wantE {
						t.Fatalf("of %d, step %d: Free(%d, %d) = %d, want %d", size, step, r.At+skip, n, e, wantE)
					}
				}
			case 4:
				found(t, m, want, n, at)
			}
			if size < 1000 || step%500 == 0 {
				holds(t, m, want)
				madeUp(t, m)
			}
		}
		holds(t, m, want)
		madeUp(t, m)
	}
}

// numbers answers a function that answers numbers from 0 to below what it is asked, the same ones each time the tests run.
func numbers(seed uint64) func(below int) int {
	x := seed*2654435761 + 1
	return func(below int) int {
		x = x*6364136223846793005 + 1442695040888963407
		return int(x >> 33 % uint64(below))
	}
}

// Promise 11.3: as many runs as there can be, taken in one order and freed in another.
func TestMostRuns(t *testing.T) {
	const size = 4096
	m, want := made(t, size), make(plain, size)
	for at := size - 2; at >= 0; at -= 4 {
		take(t, m, at, 1)
		want.set(at, 1, true)
	}
	for at := 0; at < size; at += 4 {
		take(t, m, at, 1)
		want.set(at, 1, true)
	}
	holds(t, m, want)
	madeUp(t, m)
	if len(m.Runs()) != size/2 {
		t.Errorf("%d runs", len(m.Runs()))
	}
	found(t, m, want, 1, 0)
	found(t, m, want, 2, 0)
	for at := size/2 - 2; at >= 0; at -= 2 {
		free(t, m, at, 1)
		want.set(at, 1, false)
	}
	holds(t, m, want)
	found(t, m, want, size/2, size/2)
	for at := size / 2; at < size; at += 2 {
		free(t, m, at, 1)
	}
	holds(t, m, make(plain, size))
}
