package field

import (
	"math"
	"slices"
	"testing"

	"cubicle/api"
)

const ones = math.MaxUint64

// edges are numbers at which a field's At or Bits may go wrong.
func edges() []int {
	return []int{
		math.MinInt, math.MinInt + 1, math.MinInt + 63, math.MinInt + 64, math.MinInt32,
		-65, -64, -63, -1, 0, 1, 2, 31, 32, 33, 62, 63, 64, 65, 127, 128, 256,
		math.MaxInt32, math.MaxInt - 64, math.MaxInt - 63, math.MaxInt - 1, math.MaxInt,
	}
}

// words are words whose bits differ from place to place.
func words() []uint64 {
	return []uint64{
		0, 1, 2, 147, 4096, 1 << 31, 1 << 32, 1 << 62, 1 << 63, ones, ones - 1,
		0x0123456789abcdef, 0xfedcba9876543210, 0xaaaaaaaaaaaaaaaa, 0x5555555555555555,
	}
}

// allFormed are all the fields that are formed, 2080 of them.
func allFormed() []Field {
	var l []Field
	for at := 0; at < 64; at++ {
		for bits := 1; at+bits <= 64; bits++ {
			l = append(l, Field{at, bits})
		}
	}
	return l
}

// notFormed are fields that aren't.
func notFormed() []Field {
	var l []Field
	for _, at := range edges() {
		for _, bits := range edges() {
			if at < 0 || at > 63 || bits < 1 || bits > 64 || at+bits > 64 {
				l = append(l, Field{at, bits})
			}
		}
	}
	return l
}

// slowGet and slowPut go bit by bit, so that they share nothing with the masks.
func slowGet(f Field, w uint64) uint64 {
	var v uint64
	for i := 0; i < f.Bits; i++ {
		if w&(1<<uint(f.At+i)) != 0 {
			v |= 1 << uint(i)
		}
	}
	return v
}

func slowPut(f Field, w, v uint64) uint64 {
	for i := 0; i < f.Bits; i++ {
		bit := uint64(1) << uint(f.At+i)
		w &^= bit
		if v&(1<<uint(i)) != 0 {
			w |= bit
		}
	}
	return w
}

func TestFieldFormed(t *testing.T) {
	cases := []struct {
		f    Field
		want bool
	}{
		{Field{0, 1}, true}, {Field{0, 64}, true}, {Field{63, 1}, true}, {Field{1, 63}, true},
		{Field{4, 8}, true}, {Field{60, 4}, true},
		{Field{0, 65}, false}, {Field{1, 64}, false}, {Field{60, 5}, false}, {Field{63, 2}, false},
		{Field{64, 1}, false}, {Field{64, 0}, false}, {Field{65, -1}, false}, {Field{0, 0}, false},
		{Field{63, 0}, false}, {Field{0, -1}, false}, {Field{-1, 1}, false}, {Field{-1, 65}, false},
		{Field{math.MinInt, math.MinInt}, false}, {Field{math.MinInt, math.MaxInt}, false},
		{Field{math.MaxInt, math.MinInt}, false}, {Field{math.MaxInt, 1}, false},
		{Field{math.MaxInt, math.MaxInt}, false}, {Field{0, math.MaxInt}, false},
		{Field{0, math.MinInt}, false}, {Field{math.MinInt, 1}, false}, {Field{}, false},
	}
	for _, c := range cases {
		if got := c.f.Formed(); got != c.want {
			t.Errorf("Formed of %v: %v", c.f, got)
		}
	}
	for _, f := range allFormed() {
		if !f.Formed() {
			t.Errorf("%v isn't formed", f)
		}
	}
	for _, f := range notFormed() {
		if f.Formed() {
			t.Errorf("%v is formed", f)
		}
	}
}

func TestMost(t *testing.T) {
	cases := []struct {
		f    Field
		want uint64
	}{
		{Field{0, 1}, 1}, {Field{63, 1}, 1}, {Field{4, 8}, 255}, {Field{0, 63}, ones >> 1},
		{Field{1, 63}, ones >> 1}, {Field{0, 64}, ones}, {Field{20, 30}, 1<<30 - 1},
	}
	for _, c := range cases {
		if got := c.f.Most(); got != c.want {
			t.Errorf("Most of %v: %d", c.f, got)
		}
	}
	for _, f := range allFormed() {
		if got := f.Most(); got != slowGet(f, ones) {
			t.Errorf("Most of %v: %d", f, got)
		}
	}
}

func TestGetAndPut(t *testing.T) {
	if got := (Field{4, 8}).Get(147); got != 9 {
		t.Error("Get:", got)
	}
	if got := (Field{4, 8}).Put(147, 0x1fe); got != 0xfe3 {
		t.Error("Put:", got)
	}
	if f := (Field{63, 1}); f.Get(1<<63) != 1 || f.Get(ones>>1) != 0 || f.Put(5, 3) != 1<<63+5 || f.Put(ones, 2) != ones>>1 {
		t.Error("the highest bit")
	}
	if f := (Field{0, 64}); f.Get(ones) != ones || f.Put(ones, 8) != 8 || f.Put(0, ones) != ones {
		t.Error("all bits")
	}
	for _, f := range allFormed() {
		for _, w := range words() {
			if got := f.Get(w); got != slowGet(f, w) {
				t.Fatalf("%v: Get(%x) is %x", f, w, got)
			}
			for _, v := range words() {
				if got := f.Put(w, v); got != slowPut(f, w, v) {
					t.Fatalf("%v: Put(%x, %x) is %x", f, w, v, got)
				}
			}
		}
	}
}

func TestFieldThatIsNotFormed(t *testing.T) {
	for _, f := range notFormed() {
		if f.Most() != 0 {
			t.Errorf("Most of %v: %d", f, f.Most())
		}
		for _, w := range words() {
			if f.Get(w) != 0 || f.Put(w, ones) != w || f.Put(w, 0) != w {
				t.Errorf("%v: Get(%x) %x, Put %x, %x", f, w, f.Get(w), f.Put(w, ones), f.Put(w, 0))
			}
		}
	}
}

// singles are the 64 fields of one bit each.
func singles() []Field {
	var l []Field
	for at := range 64 {
		l = append(l, Field{at, 1})
	}
	return l
}

func goodLayouts() [][]Field {
	return [][]Field{
		nil,
		{},
		{{0, 64}},
		{{63, 1}},
		{{0, 1}},
		{{0, 4}, {4, 8}},
		{{4, 8}, {0, 4}},
		{{63, 1}, {0, 63}},
		{{0, 32}, {32, 32}},
		{{60, 4}, {1, 2}, {10, 20}},
		{{0, 20}, {20, 30}, {50, 6}, {58, 6}},
		{{0, 21}, {21, 43}},
		singles(),
	}
}

func badLayouts() [][]Field {
	l := [][]Field{
		{{0, 4}, {3, 2}},
		{{3, 2}, {0, 4}},
		{{0, 4}, {0, 4}},
		{{0, 64}, {63, 1}},
		{{0, 64}, {0, 1}},
		{{62, 2}, {63, 1}},
		{{8, 8}, {0, 64}},
		{{0, 1}, {10, 10}, {5, 6}},
		{{0, 1}, {2, 1}, {1, 1}, {0, 1}},
		append(singles(), Field{63, 1}),
		append(singles(), Field{0, 1}),
	}
	for _, f := range notFormed() {
		l = append(l, []Field{f}, []Field{{0, 4}, f}, []Field{f, {0, 4}})
	}
	return l
}

// share tells whether two formed fields have a bit together, place by place.
func share(a, b Field) bool {
	for i := range 64 {
		if i >= a.At && i < a.At+a.Bits && i >= b.At && i < b.At+b.Bits {
			return true
		}
	}
	return false
}

func TestLayoutFormed(t *testing.T) {
	for _, l := range goodLayouts() {
		if !Formed(l) {
			t.Errorf("%v isn't formed", l)
		}
	}
	for _, l := range badLayouts() {
		if Formed(l) {
			t.Errorf("%v is formed", l)
		}
	}
}

func TestLayoutOfTwoFormed(t *testing.T) {
	var some []Field
	for _, at := range []int{0, 1, 2, 31, 32, 62, 63} {
		for _, bits := range []int{1, 2, 30, 31, 32, 33, 62, 63, 64} {
			if at+bits <= 64 {
				some = append(some, Field{at, bits})
			}
		}
	}
	for _, a := range some {
		for _, b := range some {
			if got := Formed([]Field{a, b}); got == share(a, b) {
				t.Errorf("%v, %v: %v", a, b, got)
			}
		}
	}
}

func TestPack(t *testing.T) {
	cases := []struct {
		l    []Field
		v    []uint64
		want uint64
	}{
		{nil, nil, 0},
		{[]Field{}, []uint64{}, 0},
		{[]Field{{0, 4}, {4, 8}}, []uint64{3, 9}, 147},
		{[]Field{{4, 8}, {0, 4}}, []uint64{9, 3}, 147},
		{[]Field{{0, 4}, {4, 8}}, []uint64{15, 255}, 4095},
		{[]Field{{0, 4}, {4, 8}}, []uint64{0, 0}, 0},
		{[]Field{{0, 64}}, []uint64{ones}, ones},
		{[]Field{{63, 1}}, []uint64{1}, 1 << 63},
		{[]Field{{63, 1}, {0, 63}}, []uint64{0, ones >> 1}, ones >> 1},
		{[]Field{{0, 20}, {20, 30}, {50, 6}, {58, 6}}, []uint64{3, 1, 0, 42}, 3 + 1<<20 + 42<<58},
		{[]Field{{60, 4}, {1, 2}}, []uint64{8, 2}, 1<<63 + 4},
	}
	for _, c := range cases {
		if w, e := Pack(c.l, c.v); w != c.want || e != api.OK {
			t.Errorf("Pack(%v, %v): %d, %d", c.l, c.v, w, e)
		}
	}
}

func TestPackRefuses(t *testing.T) {
	two := []Field{{0, 4}, {4, 8}}
	cases := []struct {
		l []Field
		v []uint64
	}{
		{two, nil}, {two, []uint64{}}, {two, []uint64{1}}, {two, []uint64{1, 2, 3}},
		{nil, []uint64{0}}, {nil, []uint64{1}}, {[]Field{}, []uint64{0}},
		{two, []uint64{16, 0}}, {two, []uint64{0, 256}}, {two, []uint64{ones, 0}}, {two, []uint64{0, ones}},
		{two, []uint64{3, 256}}, {two, []uint64{16, 256}}, {two, []uint64{16}}, {two, []uint64{1, 2, ones}},
		{[]Field{{63, 1}}, []uint64{2}}, {[]Field{{0, 63}}, []uint64{1 << 63}},
		{[]Field{{0, 1}}, []uint64{2}}, {[]Field{{0, 1}}, []uint64{1 << 63}},
	}
	for _, l := range badLayouts() {
		cases = append(cases, struct {
			l []Field
			v []uint64
		}{l, make([]uint64, len(l))})
	}
	for _, c := range cases {
		if w, e := Pack(c.l, c.v); w != 0 || e != api.ErrArg {
			t.Errorf("Pack(%v, %v): %d, %d", c.l, c.v, w, e)
		}
	}
}

func TestMostIsTheBoundOfPack(t *testing.T) {
	for _, f := range allFormed() {
		l := []Field{f}
		if w, e := Pack(l, []uint64{f.Most()}); w != slowPut(f, 0, ones) || e != api.OK {
			t.Errorf("Pack of %v's Most: %d, %d", f, w, e)
		}
		if f.Bits == 64 {
			continue
		}
		if w, e := Pack(l, []uint64{f.Most() + 1}); w != 0 || e != api.ErrArg {
			t.Errorf("Pack of more than %v's Most: %d, %d", f, w, e)
		}
	}
}

func TestSplit(t *testing.T) {
	cases := []struct {
		l    []Field
		w    uint64
		want []uint64
	}{
		{nil, 0, nil},
		{[]Field{}, 0, nil},
		{[]Field{{0, 4}, {4, 8}}, 147, []uint64{3, 9}},
		{[]Field{{4, 8}, {0, 4}}, 147, []uint64{9, 3}},
		{[]Field{{0, 4}, {4, 8}}, 0, []uint64{0, 0}},
		{[]Field{{0, 4}, {4, 8}}, 4095, []uint64{15, 255}},
		{[]Field{{0, 64}}, ones, []uint64{ones}},
		{[]Field{{63, 1}}, 1 << 63, []uint64{1}},
		{[]Field{{63, 1}, {0, 63}}, ones, []uint64{1, ones >> 1}},
		{[]Field{{0, 1}}, 1, []uint64{1}},
	}
	for _, c := range cases {
		if v, e := Split(c.l, c.w); !slices.Equal(v, c.want) || e != api.OK {
			t.Errorf("Split(%v, %d): %v, %d", c.l, c.w, v, e)
		}
	}
}

func TestSplitRefuses(t *testing.T) {
	two := []Field{{0, 4}, {4, 8}}
	cases := []struct {
		l []Field
		w uint64
		e api.Errno
	}{
		{two, 4096, api.ErrForm}, {two, 4096 + 147, api.ErrForm}, {two, 1 << 63, api.ErrForm}, {two, ones, api.ErrForm},
		{nil, 1, api.ErrForm}, {nil, 1 << 63, api.ErrForm}, {[]Field{}, ones, api.ErrForm},
		{[]Field{{63, 1}}, 1 << 62, api.ErrForm}, {[]Field{{1, 63}}, 1, api.ErrForm},
		{[]Field{{0, 4}, {5, 8}}, 1 << 4, api.ErrForm},
	}
	for _, l := range badLayouts() {
		for _, w := range []uint64{0, 1, ones} {
			cases = append(cases, struct {
				l []Field
				w uint64
				e api.Errno
			}{l, w, api.ErrArg})
		}
	}
	for _, c := range cases {
		if v, e := Split(c.l, c.w); len(v) != 0 || e != c.e {
			t.Errorf("Split(%v, %d): %v, %d", c.l, c.w, v, e)
		}
	}
}

// TestEachBit asks of each bit of a word, of each layout, whether a field has it.
func TestEachBit(t *testing.T) {
	for _, l := range goodLayouts() {
		for at := range 64 {
			want := make([]uint64, len(l))
			e := api.ErrForm
			for i, f := range l {
				if share(f, Field{at, 1}) {
					want[i], e = 1<<uint(at-f.At), api.OK
				}
			}
			if e != api.OK {
				want = nil
			}
			if v, got := Split(l, 1<<uint(at)); !slices.Equal(v, want) || got != e {
				t.Errorf("Split(%v, 1<<%d): %v, %d", l, at, v, got)
			}
		}
	}
}

func TestPackedIsSplitAgain(t *testing.T) {
	for _, l := range goodLayouts() {
		for i := range words() {
			v := make([]uint64, len(l))
			for j, f := range l {
				v[j] = f.Get(words()[(i+j)%len(words())])
			}
			w, e := Pack(l, v)
			if e != api.OK {
				t.Fatalf("Pack(%v, %v): %d", l, v, e)
			}
			again, e := Split(l, w)
			if !slices.Equal(again, v) || e != api.OK {
				t.Errorf("Split(%v, %d): %v, %d, not %v", l, w, again, e, v)
			}
			if back, e := Pack(l, again); back != w || e != api.OK {
				t.Errorf("Pack(%v, %v): %d, %d, not %d", l, again, back, e, w)
			}
		}
	}
}

// TestArgumentsAreLeft looks at what was handed in, its spare room too (R5).
func TestArgumentsAreLeft(t *testing.T) {
	l := []Field{{0, 4}, {4, 8}, {9, 9}, {7, 7}}
	v := []uint64{3, 9, 77, 78}
	Formed(l[:2])
	Pack(l[:2], v[:2])
	Pack(l[:2], v[:1])
	Split(l[:2], 147)
	Split(l[:2], 4096)
	Split(l, 147)
	if !slices.Equal(l, []Field{{0, 4}, {4, 8}, {9, 9}, {7, 7}}) || !slices.Equal(v, []uint64{3, 9, 77, 78}) {
		t.Error(l, v)
	}
}

func TestAnswersAreNewMemory(t *testing.T) {
	l := []Field{{0, 4}, {4, 8}}
	a, _ := Split(l, 147)
	b, _ := Split(l, 147)
	a[0], a[1] = 7, 7
	_ = append(a, 7)
	if c, _ := Split(l, 147); !slices.Equal(b, []uint64{3, 9}) || !slices.Equal(c, []uint64{3, 9}) {
		t.Error(b, c)
	}
}
