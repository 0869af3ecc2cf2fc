package inbox

import (
	"math"
	"slices"
	"testing"

	"cubicle/api"
)

// made is a box of the size, with the things put.
func made[T any](t *testing.T, size int, things ...T) *Box[T] {
	t.Helper()
	b, e := New[T](size)
	if e != api.OK || b == nil {
		t.Fatalf("New(%d): %v, %v", size, b, e)
	}
	for _, x := range things {
		if e := b.Put(x); e != api.OK {
			t.Fatalf("Put(%v): %v", x, e)
		}
	}
	return b
}

// holds asks whether the box tells so many things, and that size.
func holds[T any](t *testing.T, b *Box[T], n, size int) {
	t.Helper()
	if b.Len() != n || b.Size() != size {
		t.Errorf("Len %d, Size %d; want %d, %d", b.Len(), b.Size(), n, size)
	}
}

// takes asks whether a Take answers that.
func takes[T comparable](t *testing.T, b *Box[T], want T, ok bool) {
	t.Helper()
	if x, is := b.Take(); x != want || is != ok {
		t.Errorf("Take: %v, %v; want %v, %v", x, is, want, ok)
	}
}

// puts asks whether a Put of x answers that.
func puts[T any](t *testing.T, b *Box[T], x T, want api.Errno) {
	t.Helper()
	if e := b.Put(x); e != want {
		t.Errorf("Put(%v): %v; want %v", x, e, want)
	}
}

// either asks whether an Either answers that.
func either[T comparable](t *testing.T, a, b *Box[T], want T, which int) {
	t.Helper()
	if x, n := Either(a, b); x != want || n != which {
		t.Errorf("Either: %v, %d; want %v, %d", x, n, want, which)
	}
}

// isEmptied asks whether the box has just these things, and takes them all.
func isEmptied[T comparable](t *testing.T, b *Box[T], want ...T) {
	t.Helper()
	holds(t, b, len(want), b.Size())
	for i, x := range want {
		takes(t, b, x, true)
		holds(t, b, len(want)-i-1, b.Size())
	}
	var none T
	takes(t, b, none, false)
	holds(t, b, 0, b.Size())
}

// P4.1: New's sizes.

func TestNew(t *testing.T) {
	for _, size := range []int{1, 2, 3, 7, 64, 1000, api.MaxBox - 1, api.MaxBox} {
		b := made[int](t, size)
		holds(t, b, 0, size)
		takes(t, b, 0, false)
		holds(t, b, 0, size)
	}
}

func TestNewOfWrongSizes(t *testing.T) {
	wrong := []int{0, -1, -2, -api.MaxBox, api.MaxBox + 1, 2 * api.MaxBox, 1 << 32,
		1<<32 + 1, -1<<32 + 1, math.MaxInt32, math.MinInt32, math.MinInt, math.MinInt + 1,
		math.MaxInt - 1, math.MaxInt}
	for _, size := range wrong {
		if b, e := New[int](size); e != api.ErrArg || b != nil {
			t.Errorf("New[int](%d): %v, %v", size, b, e)
		}
		if b, e := New[struct{}](size); e != api.ErrArg || b != nil {
			t.Errorf("New[struct{}](%d): %v, %v", size, b, e)
		}
	}
}

// P4.1: Put, Take, Len and Size.

func TestExample(t *testing.T) {
	b := made[int](t, 1)
	puts(t, b, 5, api.OK)
	puts(t, b, 6, api.ErrFull)
	takes(t, b, 5, true)
	takes(t, b, 0, false)
}

func TestEachSizeHasRoomForSoMany(t *testing.T) {
	for _, size := range []int{1, 2, 3, 8, 100, api.MaxBox - 1, api.MaxBox} {
		b := made[int](t, size)
		want := make([]int, size)
		for i := range size {
			want[i] = 3*i + 1
			puts(t, b, want[i], api.OK)
			holds(t, b, i+1, size)
		}
		puts(t, b, -1, api.ErrFull)
		holds(t, b, size, size)
		isEmptied(t, b, want...)
	}
}

func TestPutIntoFullChangesNothing(t *testing.T) {
	b := made(t, 3, 1, 2, 3)
	for i := range 10 {
		puts(t, b, 100+i, api.ErrFull)
		holds(t, b, 3, 3)
	}
	isEmptied(t, b, 1, 2, 3)
}

func TestPutBehindATakeOutOfFull(t *testing.T) {
	b := made(t, 3, 1, 2, 3)
	puts(t, b, 4, api.ErrFull)
	takes(t, b, 1, true)
	holds(t, b, 2, 3)
	puts(t, b, 5, api.OK)
	holds(t, b, 3, 3)
	puts(t, b, 6, api.ErrFull)
	isEmptied(t, b, 2, 3, 5)
}

func TestTakeOfTheLastAndOfNone(t *testing.T) {
	b := made(t, 2, 7)
	takes(t, b, 7, true)
	for range 3 {
		takes(t, b, 0, false)
		holds(t, b, 0, 2)
	}
	puts(t, b, 8, api.OK)
	holds(t, b, 1, 2)
	isEmptied(t, b, 8)
}

func TestAZeroThingIsAThing(t *testing.T) {
	b := made(t, 2, 0, 0)
	puts(t, b, 0, api.ErrFull)
	isEmptied(t, b, 0, 0)
}

func TestFilledAndEmptiedAgainAndAgain(t *testing.T) {
	for _, size := range []int{1, 2, 5} {
		b := made[int](t, size)
		for turn := range 50 {
			var want []int
			for i := range size {
				want = append(want, turn*size+i)
				puts(t, b, turn*size+i, api.OK)
			}
			puts(t, b, -1, api.ErrFull)
			isEmptied(t, b, want...)
		}
	}
}

// P4.1: any type T, and a zero one where there is none.

type thing struct {
	name string
	at   [2]int
}

func TestTypes(t *testing.T) {
	isEmptied(t, made(t, 3, "a", "", "b"), "a", "", "b")
	isEmptied(t, made(t, 2, true, false), true, false)
	isEmptied(t, made[uint64](t, 2, math.MaxUint64, 0), math.MaxUint64, 0)
	isEmptied(t, made(t, 2, 1.5, -2), 1.5, -2)
	isEmptied(t, made(t, 2, thing{"x", [2]int{1, 2}}, thing{}), thing{"x", [2]int{1, 2}}, thing{})
	isEmptied(t, made(t, 3, struct{}{}, struct{}{}), struct{}{}, struct{}{})
	isEmptied(t, made(t, 2, api.Res{E: api.ErrFull}, api.Res{V: 4}), api.Res{E: api.ErrFull}, api.Res{V: 4})
	isEmptied[any](t, made[any](t, 3, 1, nil, "x"), 1, nil, "x")
	x, y := 1, 2
	isEmptied(t, made(t, 3, &x, nil, &y), &x, nil, &y)
}

func TestListsAndFunctions(t *testing.T) {
	b := made(t, 2, []byte{1, 2}, nil)
	if x, ok := b.Take(); !ok || !slices.Equal(x, []byte{1, 2}) {
		t.Error(x, ok)
	}
	if x, ok := b.Take(); !ok || x != nil {
		t.Error(x, ok)
	}
	if x, ok := b.Take(); ok || x != nil {
		t.Error(x, ok)
	}
	f := made(t, 1, func() int { return 9 })
	if x, ok := f.Take(); !ok || x() != 9 {
		t.Error(ok)
	}
	if x, ok := f.Take(); ok || x != nil {
		t.Error(ok)
	}
}

func TestBoxOfBoxes(t *testing.T) {
	inner := made(t, 2, 4)
	b := made(t, 1, inner)
	inner.Put(5)
	x, ok := b.Take()
	if !ok || x != inner {
		t.Fatal(x, ok)
	}
	isEmptied(t, x, 4, 5)
	takes(t, b, nil, false)
}

// R5: a list that is put is left as it is, its spare room too.
func TestPutLeavesAList(t *testing.T) {
	whole := []uint64{1, 2, 3, 4}
	b := made(t, 1, whole[:2])
	b.Put(whole[1:3])
	x, _ := b.Take()
	if !slices.Equal(x, []uint64{1, 2}) || !slices.Equal(whole, []uint64{1, 2, 3, 4}) {
		t.Error(x, whole)
	}
}

// P4.2

func TestEitherOfBoth(t *testing.T) {
	// Again and again, since a choice among two that are ready might be right by chance.
	for range 100 {
		a, b := made(t, 4, 1, 2, 3), made(t, 3, 11, 12)
		for i := range 3 {
			either(t, a, b, i+1, 1)
			holds(t, a, 2-i, 4)
			holds(t, b, 2, 3)
		}
		for i := range 2 {
			either(t, a, b, i+11, 2)
			holds(t, a, 0, 4)
			holds(t, b, 1-i, 3)
		}
		either(t, a, b, 0, 0)
		holds(t, a, 0, 4)
		holds(t, b, 0, 3)
	}
}

func TestEitherOfOnlyA(t *testing.T) {
	a, b := made(t, 2, "x", "y"), made[string](t, 2)
	either(t, a, b, "x", 1)
	either(t, a, b, "y", 1)
	either(t, a, b, "", 0)
}

func TestEitherOfOnlyB(t *testing.T) {
	a, b := made[string](t, 2), made(t, 2, "x", "y")
	either(t, a, b, "x", 2)
	either(t, a, b, "y", 2)
	either(t, a, b, "", 0)
}

func TestEitherOfNone(t *testing.T) {
	a, b := made[thing](t, 1), made[thing](t, 2)
	for range 3 {
		either(t, a, b, thing{}, 0)
		holds(t, a, 0, 1)
		holds(t, b, 0, 2)
	}
	puts(t, b, thing{name: "x"}, api.OK)
	either(t, a, b, thing{name: "x"}, 2)
}

func TestEitherOfTheSame(t *testing.T) {
	b := made(t, 3, 1, 2, 3)
	for i := range 3 {
		either(t, b, b, i+1, 1)
		holds(t, b, 2-i, 3)
	}
	either(t, b, b, 0, 0)
	holds(t, b, 0, 3)
}

func TestEitherGoesBackToA(t *testing.T) {
	a, b := made[int](t, 1), made(t, 3, 11, 12, 13)
	either(t, a, b, 11, 2)
	puts(t, a, 1, api.OK)
	either(t, a, b, 1, 1)
	either(t, a, b, 12, 2)
	isEmptied(t, a)
	isEmptied(t, b, 13)
}

func TestEitherTellsAZeroThing(t *testing.T) {
	either(t, made(t, 1, 0), made(t, 1, 5), 0, 1)
	either(t, made[int](t, 1), made(t, 1, 0), 0, 2)
}

func TestEitherMakesRoom(t *testing.T) {
	a, b := made(t, 1, 1), made(t, 1, 2)
	either(t, a, b, 1, 1)
	puts(t, b, 3, api.ErrFull)
	puts(t, a, 4, api.OK)
	puts(t, a, 5, api.ErrFull)
	either(t, a, b, 4, 1)
	either(t, a, b, 2, 2)
	puts(t, b, 6, api.OK)
	isEmptied(t, b, 6)
}

// R7

func TestTwoBoxesDoNotHangOnOneAnother(t *testing.T) {
	a, b := made[int](t, 2), made[int](t, 2)
	puts(t, a, 1, api.OK)
	holds(t, b, 0, 2)
	takes(t, b, 0, false)
	puts(t, a, 2, api.OK)
	puts(t, a, 3, api.ErrFull)
	puts(t, b, 9, api.OK)
	holds(t, a, 2, 2)
	holds(t, b, 1, 2)
	isEmptied(t, a, 1, 2)
	holds(t, b, 1, 2)
	isEmptied(t, b, 9)
}

// P4.3: long rows of calls, beside lists that tell what must be there.

// pair is two boxes, and the things that they must have.
type pair struct {
	box  [2]*Box[int]
	want [2][]int
}

// draw goes on by a fixed rule, so that each run is the same.
func draw(seed *uint64, below int) int {
	*seed = *seed*6364136223846793005 + 1442695040888963407
	return int(*seed >> 33 % uint64(below))
}

func (p *pair) put(t *testing.T, i, x int) {
	t.Helper()
	if len(p.want[i]) == p.box[i].Size() {
		puts(t, p.box[i], x, api.ErrFull)
		return
	}
	puts(t, p.box[i], x, api.OK)
	p.want[i] = append(p.want[i], x)
}

// first takes the first thing that must be in the box out of what must be there.
func (p *pair) first(i int) (int, bool) {
	if len(p.want[i]) == 0 {
		return 0, false
	}
	x := p.want[i][0]
	p.want[i] = p.want[i][1:]
	return x, true
}

func (p *pair) either(t *testing.T, i, j int) {
	t.Helper()
	x, ok := p.first(i)
	n := 1
	if !ok {
		x, ok = p.first(j)
		n = 2
	}
	if !ok {
		n = 0
	}
	either(t, p.box[i], p.box[j], x, n)
}

func TestLongRows(t *testing.T) {
	sizes := [][2]int{{1, 1}, {1, 4}, {3, 2}, {7, 7}, {40, 5}, {api.MaxBox, 1}}
	seed := uint64(4)
	for _, s := range sizes {
		p := &pair{box: [2]*Box[int]{made[int](t, s[0]), made[int](t, s[1])}}
		// Where puts are many the boxes are full now and then, where few, empty.
		for step := range 20000 {
			many := step / 500 % 2
			i := draw(&seed, 2)
			switch draw(&seed, 6) {
			case 0, 1:
				p.put(t, i, step+1)
			case 2, 3:
				if many == 1 {
					p.put(t, i, step+1)
					break
				}
				x, ok := p.first(i)
				takes(t, p.box[i], x, ok)
			case 4:
				x, ok := p.first(i)
				takes(t, p.box[i], x, ok)
			default:
				p.either(t, i, draw(&seed, 2))
			}
			holds(t, p.box[0], len(p.want[0]), s[0])
			holds(t, p.box[1], len(p.want[1]), s[1])
			if t.Failed() {
				t.Fatalf("sizes %v, step %d", s, step)
			}
		}
	}
}
