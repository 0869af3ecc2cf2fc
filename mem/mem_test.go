package mem

import (
	"math"
	"slices"
	"testing"

	"cubicle/api"
)

const ones = math.MaxUint64

// outside are numbers that are below 0, or no place and no region of a few.
func outside(n int) []int {
	return []int{
		math.MinInt, math.MinInt + 1, math.MinInt32 - 1, math.MinInt32, -65, -2, -1,
		n, n + 1, 65 + n, math.MaxInt32, math.MaxInt32 + 1, 1 << 32, math.MaxInt - 1, math.MaxInt,
	}
}

// words are words at which an access may go wrong.
func words() []uint64 {
	return []uint64{0, 1, 2, 7, 9, 1 << 31, 1 << 32, 1 << 63, 1<<63 - 1, ones, ones - 1, 0x0123456789abcdef}
}

func made(t *testing.T, sizes ...int) *Memory {
	t.Helper()
	m, e := New(sizes)
	if e != api.OK || m == nil {
		t.Fatalf("New(%v): %v, %d", sizes, m, e)
	}
	return m
}

// look is all that can be seen of a memory.
type look struct {
	words [][]uint64
	caps  []Cap
	count int
}

func seen(m *Memory) look {
	l := look{count: m.Count()}
	for r := range m.Regions() {
		var w []uint64
		for at := range m.Size(r) {
			w = append(w, m.Peek(r, at))
		}
		l.words = append(l.words, w)
		l.caps = append(l.caps, m.Cap(r))
	}
	return l
}

func same(a, b look) bool {
	return a.count == b.count && slices.Equal(a.caps, b.caps) && slices.EqualFunc(a.words, b.words, slices.Equal)
}

// changed is how many words differ between two looks at one memory.
func changed(a, b look) int {
	n := 0
	for r, w := range a.words {
		for at := range w {
			if w[at] != b.words[r][at] {
				n++
			}
		}
	}
	return n
}

// filled has another word, not 0, at each place, and other epochs in its regions.
func filled(t *testing.T, sizes ...int) *Memory {
	t.Helper()
	m := made(t, sizes...)
	for r, n := range sizes {
		for range r {
			m.Bump(r)
		}
		for at := range n {
			if _, ok := m.Do(m.Cap(r), Access{Op: Store, At: at, A: uint64(100*r + at + 1)}); !ok {
				t.Fatal("store", r, at)
			}
		}
	}
	return m
}

// equal is a list of n sizes that are all the same.
func equal(n, size int) []int {
	return slices.Repeat([]int{size}, n)
}

func TestOpsAreNumbered(t *testing.T) {
	if Load != 0 || Store != 1 || Swap != 2 || Add != 3 {
		t.Error(Load, Store, Swap, Add)
	}
}

func TestNew(t *testing.T) {
	most := equal(api.MaxRegions, api.MaxWords/api.MaxRegions)
	most[64] += api.MaxWords % api.MaxRegions
	for _, sizes := range [][]int{
		nil, {}, {0}, {1}, {2, 1}, {0, 0, 0}, {0, 3, 0}, {3, 0, 4},
		equal(api.MaxRegions, 0), equal(api.MaxRegions, 1), most,
		{api.MaxWords}, {api.MaxWords, 0}, {0, api.MaxWords}, {api.MaxWords - 1, 1}, {1, api.MaxWords - 1},
		{api.MaxWords / 2, api.MaxWords / 2},
	} {
		m := made(t, sizes...)
		if m.Regions() != len(sizes) || m.Count() != 0 {
			t.Errorf("New(%v): %d regions, %d accesses", sizes, m.Regions(), m.Count())
		}
		for r, n := range sizes {
			if m.Size(r) != n {
				t.Errorf("New(%v): Size(%d) is %d", sizes, r, m.Size(r))
			}
			if c := m.Cap(r); c != (Cap{Region: r, Epoch: 1}) || !m.Good(c) {
				t.Errorf("New(%v): Cap(%d) is %v", sizes, r, c)
			}
		}
	}
}

func TestNewRefuses(t *testing.T) {
	over := equal(api.MaxRegions, api.MaxWords/api.MaxRegions)
	over[64] += api.MaxWords%api.MaxRegions + 1
	for _, sizes := range [][]int{
		equal(api.MaxRegions+1, 0), equal(api.MaxRegions+1, 1), equal(1000, 0),
		append(equal(api.MaxRegions, 0), -1), append(equal(api.MaxRegions-1, 0), -1), over,
		{-1}, {-1, 0}, {0, -1}, {5, -1, 5}, {1, -1}, {-1, 1},
		{api.MaxWords + 1}, {api.MaxWords, 1}, {1, api.MaxWords}, {api.MaxWords, 0, 1}, {api.MaxWords + 1, -1}, {-1, api.MaxWords + 1},
		{api.MaxWords / 2, api.MaxWords/2 + 1}, {api.MaxWords, api.MaxWords},
		{math.MinInt}, {math.MaxInt}, {math.MinInt, math.MinInt}, {math.MaxInt, math.MinInt}, {math.MinInt, math.MaxInt, 1},
		{math.MaxInt, math.MaxInt}, {math.MaxInt, math.MaxInt, 2}, {1, math.MaxInt}, {math.MaxInt, 1},
		{math.MaxInt32, math.MaxInt32, 2}, {1 << 32}, {1 << 62, 1 << 62, 1 << 62, 1 << 62},
	} {
		if m, e := New(sizes); m != nil || e != api.ErrArg {
			t.Errorf("New(%v): %v, %d", sizes, m, e)
		}
	}
}

func TestWordsAreZeroAtFirst(t *testing.T) {
	m := made(t, 3, 0, 5)
	if l := seen(m); !slices.EqualFunc(l.words, [][]uint64{{0, 0, 0}, nil, {0, 0, 0, 0, 0}}, slices.Equal) {
		t.Error(l)
	}
	for r := range m.Regions() {
		for at := range m.Size(r) {
			if w, ok := m.Do(m.Cap(r), Access{Op: Load, At: at}); w != 0 || !ok {
				t.Error(r, at, w, ok)
			}
		}
	}
}

func TestRegionsThatAreNotThere(t *testing.T) {
	for _, sizes := range [][]int{nil, {4}, {2, 1, 3}} {
		m := filled(t, sizes...)
		before := seen(m)
		for _, r := range outside(len(sizes)) {
			if m.Size(r) != 0 || m.Cap(r) != (Cap{}) || m.Peek(r, 0) != 0 {
				t.Errorf("region %d of %v: %d, %v, %d", r, sizes, m.Size(r), m.Cap(r), m.Peek(r, 0))
			}
			if c, e := m.Bump(r); c != (Cap{}) || e != api.ErrArg {
				t.Errorf("Bump(%d) of %v: %v, %d", r, sizes, c, e)
			}
			for _, epoch := range []uint64{0, 1, 2, 3, ones} {
				if m.Good(Cap{Region: r, Epoch: epoch}) {
					t.Errorf("region %d of %v is good in %d", r, sizes, epoch)
				}
			}
		}
		if !same(before, seen(m)) {
			t.Error("changed:", before, seen(m))
		}
	}
}

func TestGood(t *testing.T) {
	m := made(t, 1, 0, 1)
	m.Bump(2)
	for r, now := range []uint64{1, 1, 2} {
		for _, epoch := range []uint64{0, 1, 2, 3, 1 << 32, 1<<32 + 1, 1<<32 + 2, 1<<63 + 1, ones - 1, ones} {
			if got := m.Good(Cap{Region: r, Epoch: epoch}); got != (epoch == now) {
				t.Error(r, epoch, got)
			}
		}
	}
	if m.Good(Cap{}) {
		t.Error("a zero capability is good")
	}
}

func TestBump(t *testing.T) {
	m := filled(t, 2, 0, 3)
	before := seen(m)
	for r := range 3 {
		first := m.Cap(r).Epoch
		for i := range uint64(5) {
			want := Cap{Region: r, Epoch: first + i + 1}
			if m.Good(want) {
				t.Error("good ahead of its Bump:", want)
			}
			if c, e := m.Bump(r); c != want || e != api.OK || m.Cap(r) != want || !m.Good(want) {
				t.Errorf("Bump(%d): %v, %d; Cap is %v, not %v", r, c, e, m.Cap(r), want)
			}
		}
		before.caps[r].Epoch += 5
		if !same(before, seen(m)) {
			t.Error("more than one epoch changed:", before, seen(m))
		}
	}
}

// TestExample is the chapter's.
func TestExample(t *testing.T) {
	m := made(t, 2)
	for _, s := range []struct {
		a    Access
		want uint64
	}{
		{Access{Op: Store, At: 1, A: 7}, 0},
		{Access{Op: Swap, At: 1, A: 7, B: 9}, 7},
		{Access{Op: Load, At: 1}, 9},
	} {
		if w, ok := m.Do(m.Cap(0), s.a); w != s.want || !ok {
			t.Error(s, w, ok)
		}
	}
}

func TestEachOp(t *testing.T) {
	cases := []struct {
		was  uint64
		a    Access
		want uint64
	}{
		{5, Access{Op: Load}, 5},
		{5, Access{Op: Load, A: 7, B: 9}, 5},
		{5, Access{Op: Load, A: 5, B: 9}, 5},
		{5, Access{Op: Store, A: 7}, 7},
		{5, Access{Op: Store, A: 5, B: 9}, 5},
		{5, Access{Op: Store, A: ones, B: 9}, ones},
		{5, Access{Op: Store}, 0},
		{5, Access{Op: Swap, A: 5, B: 9}, 9},
		{5, Access{Op: Swap, A: 6, B: 9}, 5},
		{5, Access{Op: Swap, A: 9, B: 5}, 5},
		{5, Access{Op: Swap, A: 5, B: 5}, 5},
		{5, Access{Op: Swap, A: 5 + 1<<32, B: 9}, 5},
		{0, Access{Op: Swap, A: 0, B: ones}, ones},
		{ones, Access{Op: Swap, A: ones, B: 0}, 0},
		{5, Access{Op: Add, A: 7, B: 9}, 12},
		{5, Access{Op: Add}, 5},
		{5, Access{Op: Add, A: ones}, 4},
		{ones, Access{Op: Add, A: 1}, 0},
		{ones, Access{Op: Add, A: ones}, ones - 1},
		{1 << 63, Access{Op: Add, A: 1 << 63}, 0},
		{1<<32 - 1, Access{Op: Add, A: 1}, 1 << 32},
	}
	for _, c := range cases {
		// The first word, the last one, and one between.
		for at := range 3 {
			m := filled(t, 3, 3, 3)
			m.Do(m.Cap(1), Access{Op: Store, At: at, A: c.was})
			want := seen(m)
			want.words[1][at] = c.want
			want.count++
			c.a.At = at
			if w, ok := m.Do(m.Cap(1), c.a); w != c.was || !ok {
				t.Errorf("%v of %d: %d, %v", c.a, c.was, w, ok)
			}
			if got := seen(m); !same(got, want) {
				t.Errorf("%v of %d: %v, not %v", c.a, c.was, got, want)
			}
		}
	}
}

// model is what the access makes of a word, written once more.
func model(was uint64, a Access) uint64 {
	if a.Op == 1 || a.Op == 2 && was == a.A {
		return []uint64{0, a.A, a.B}[a.Op]
	}
	if a.Op == 3 {
		return a.A - (0 - was)
	}
	return was
}

func TestAllWords(t *testing.T) {
	for op := range 4 {
		for _, was := range words() {
			for _, x := range words() {
				for _, y := range words() {
					m := made(t, 1)
					m.Do(m.Cap(0), Access{Op: Store, A: was})
					a := Access{Op: op, A: x, B: y}
					w, ok := m.Do(m.Cap(0), a)
					if w != was || !ok || m.Peek(0, 0) != model(was, a) || m.Count() != 2 {
						t.Fatalf("%v of %d: %d, %v; %d", a, was, w, ok, m.Peek(0, 0))
					}
				}
			}
		}
	}
}

// refused asks for each Op, at that place, by that capability, and that nothing comes of it.
func refused(t *testing.T, m *Memory, c Cap, at int) {
	t.Helper()
	before := seen(m)
	for op := Load; op <= Add; op++ {
		for _, x := range []uint64{0, 1, before.now(c, at), ones} {
			a := Access{Op: op, At: at, A: x, B: 77}
			if w, ok := m.Do(c, a); w != 0 || ok {
				t.Errorf("%v by %v: %d, %v", a, c, w, ok)
			}
		}
	}
	if after := seen(m); !same(before, after) {
		t.Errorf("At %d by %v: %v became %v", at, c, before, after)
	}
}

// now is the word that a Swap by a bad capability would have to name; 5, if there is none.
func (l look) now(c Cap, at int) uint64 {
	if c.Region < 0 || c.Region >= len(l.words) || at < 0 || at >= len(l.words[c.Region]) {
		return 5
	}
	return l.words[c.Region][at]
}

func TestDoRefusesPlaces(t *testing.T) {
	for _, n := range []int{0, 1, 2, 7} {
		m := filled(t, 9, n, 9)
		for _, at := range outside(n) {
			refused(t, m, m.Cap(1), at)
		}
	}
}

func TestDoRefusesOps(t *testing.T) {
	m := filled(t, 2, 2)
	before := seen(m)
	for _, op := range append(outside(4), 1<<32+1, 1<<32+2, 1<<8+1, math.MinInt+1, math.MinInt+3) {
		for at := range 2 {
			for _, x := range words() {
				a := Access{Op: op, At: at, A: x, B: 77}
				if w, ok := m.Do(m.Cap(1), a); w != 0 || ok {
					t.Errorf("%v: %d, %v", a, w, ok)
				}
			}
		}
	}
	if !same(before, seen(m)) {
		t.Error("changed:", before, seen(m))
	}
}

func TestDoRefusesRegions(t *testing.T) {
	for _, sizes := range [][]int{nil, {3}, {3, 3}} {
		m := filled(t, sizes...)
		for _, r := range outside(len(sizes)) {
			for _, epoch := range []uint64{0, 1, 2, ones} {
				refused(t, m, Cap{Region: r, Epoch: epoch}, 0)
			}
		}
		refused(t, m, Cap{}, 0)
	}
}

func TestDoRefusesEpochs(t *testing.T) {
	m := filled(t, 3, 3, 3)
	for r := range 3 {
		now := m.Cap(r).Epoch
		for _, epoch := range []uint64{0, now - 1, now + 1, now + 1<<32, now + 1<<63, 0 - now, ones} {
			refused(t, m, Cap{Region: r, Epoch: epoch}, 0)
			refused(t, m, Cap{Region: r, Epoch: epoch}, 2)
		}
	}
}

// TestEarlierEpochs: behind each Bump all capabilities that were good do nothing, and the new one does.
func TestEarlierEpochs(t *testing.T) {
	m := filled(t, 2, 2)
	var earlier []Cap
	for i := range uint64(8) {
		old := m.Cap(0)
		next := Cap{Region: 0, Epoch: old.Epoch + 1}
		refused(t, m, next, 1)
		if _, ok := m.Do(old, Access{Op: Store, At: 1, A: 50 + i}); !ok {
			t.Error("ahead of the Bump:", old)
		}
		earlier = append(earlier, old)
		if c, e := m.Bump(0); c != next || e != api.OK {
			t.Error(c, e)
		}
		for _, c := range earlier {
			refused(t, m, c, 1)
			if m.Good(c) {
				t.Error("good still:", c)
			}
		}
		if w, ok := m.Do(next, Access{Op: Load, At: 1}); w != 50+i || !ok {
			t.Error("behind the Bump:", w, ok)
		}
		if _, ok := m.Do(m.Cap(1), Access{Op: Load}); !ok || m.Cap(1).Epoch != 2 {
			t.Error("the other region")
		}
	}
}

func TestPeek(t *testing.T) {
	m := filled(t, 3, 0, 2)
	before := seen(m)
	for r, n := range []int{3, 0, 2} {
		for at := range n {
			if w := m.Peek(r, at); w != uint64(100*r+at+1) {
				t.Error(r, at, w)
			}
		}
		for _, at := range outside(n) {
			if w := m.Peek(r, at); w != 0 {
				t.Error(r, at, w)
			}
		}
	}
	for _, r := range outside(3) {
		for _, at := range append(outside(3), 0, 1, 2) {
			if w := m.Peek(r, at); w != 0 {
				t.Error(r, at, w)
			}
		}
	}
	if !same(before, seen(m)) {
		t.Error("a Peek changed something")
	}
}

// TestCount: what is done is counted, even if it changes no word; nothing else is.
func TestCount(t *testing.T) {
	m := made(t, 1, 0)
	c := m.Cap(0)
	for i, a := range []Access{{Op: Load}, {Op: Store}, {Op: Swap, A: 1, B: 2}, {Op: Swap}, {Op: Add}, {Op: Add, A: 1}} {
		if _, ok := m.Do(c, a); !ok || m.Count() != i+1 {
			t.Error(a, m.Count())
		}
	}
	m.Do(c, Access{At: 1})
	m.Do(c, Access{Op: 4})
	m.Do(Cap{}, Access{})
	m.Do(m.Cap(1), Access{})
	m.Peek(0, 0)
	m.Bump(0)
	m.Bump(2)
	m.Do(c, Access{})
	if m.Count() != 6 {
		t.Error(m.Count())
	}
}

// TestLargest reaches the ends of regions that are MaxWords together.
func TestLargest(t *testing.T) {
	m := made(t, 1, api.MaxWords-1)
	last := api.MaxWords - 2
	for _, at := range []int{0, last} {
		if w, ok := m.Do(m.Cap(1), Access{Op: Add, At: at, A: 5}); w != 0 || !ok || m.Peek(1, at) != 5 {
			t.Error(at, w, ok)
		}
	}
	if w, ok := m.Do(m.Cap(1), Access{Op: Add, At: last + 1, A: 5}); w != 0 || ok || m.Peek(1, last+1) != 0 {
		t.Error(w, ok)
	}
	if m.Peek(0, 0) != 0 || m.Count() != 2 {
		t.Error(m.Peek(0, 0), m.Count())
	}
}

func TestManyRegions(t *testing.T) {
	m := filled(t, equal(api.MaxRegions, 2)...)
	for r := range api.MaxRegions {
		if m.Cap(r) != (Cap{Region: r, Epoch: uint64(r + 1)}) || m.Peek(r, 0) != uint64(100*r+1) || m.Peek(r, 1) != uint64(100*r+2) {
			t.Error(r, m.Cap(r), m.Peek(r, 0), m.Peek(r, 1))
		}
	}
	if m.Count() != 2*api.MaxRegions {
		t.Error(m.Count())
	}
}

// TestLongRun goes through a fixed row of accesses, good and bad, beside a model of the words.
func TestLongRun(t *testing.T) {
	sizes := []int{3, 0, 1, 4}
	m := made(t, sizes...)
	want := look{words: [][]uint64{make([]uint64, 3), nil, make([]uint64, 1), make([]uint64, 4)}}
	for r := range sizes {
		want.caps = append(want.caps, Cap{Region: r, Epoch: 1})
	}
	row := uint64(1)
	next := func(n int) int {
		row = row*6364136223846793005 + 1442695040888963407
		return int((row >> 33) % uint64(n))
	}
	for range 20000 {
		r := next(6) - 1
		if next(20) == 0 {
			if _, e := m.Bump(r); (e == api.OK) != (r >= 0 && r < 4) {
				t.Fatal(r, e)
			} else if e == api.OK {
				want.caps[r].Epoch++
			}
		}
		c := Cap{Region: r, Epoch: m.Cap(r).Epoch - uint64(next(8)/7)}
		a := Access{Op: next(6) - 1, At: next(6) - 1, A: uint64(next(3)), B: uint64(next(3))}
		may := r >= 0 && r < 4 && c == want.caps[r] && a.Op >= 0 && a.Op < 4 && a.At >= 0 && a.At < sizes[r]
		before, tells := seen(m), uint64(0)
		if may {
			tells = want.words[r][a.At]
			want.words[r][a.At] = model(tells, a)
			want.count++
		}
		if w, ok := m.Do(c, a); w != tells || ok != may {
			t.Fatalf("%v by %v: %d, %v, not %d, %v", a, c, w, ok, tells, may)
		}
		if after := seen(m); !same(after, want) || changed(before, after) > 1 {
			t.Fatalf("%v by %v: %v, not %v", a, c, after, want)
		}
	}
	if want.count < 1000 {
		t.Error("too few were done:", want.count)
	}
}

// TestSizesAreLeft looks at what was handed in, its spare room too, and that it isn't kept (R5).
func TestSizesAreLeft(t *testing.T) {
	sizes := []int{2, 1, 77, 78}
	m := made(t, sizes[:2]...)
	wrong := []int{2, -1, 77, 78}
	New(wrong[:2])
	m.Bump(0)
	m.Do(m.Cap(1), Access{Op: Store, A: 5})
	if !slices.Equal(sizes, []int{2, 1, 77, 78}) || !slices.Equal(wrong, []int{2, -1, 77, 78}) {
		t.Error(sizes, wrong)
	}
	sizes[0], sizes[1] = 9, 0
	if m.Regions() != 2 || m.Size(0) != 2 || m.Size(1) != 1 || m.Peek(1, 0) != 5 {
		t.Error("the sizes are kept")
	}
}

// TestTwoMemories: they don't hang on one another (R7).
func TestTwoMemories(t *testing.T) {
	a, b := filled(t, 2, 2), filled(t, 2, 2)
	before := seen(b)
	a.Bump(0)
	a.Do(a.Cap(0), Access{Op: Store, At: 1, A: ones})
	a.Do(a.Cap(1), Access{Op: Add, A: ones})
	if !same(before, seen(b)) {
		t.Error(before, seen(b))
	}
}
