package thread

import (
	"math"
	"slices"
	"testing"

	"cubicle/api"
	"cubicle/mem"
	"cubicle/prog"
)

const ones = math.MaxUint64

// words is how many words a region of the tests has.
const words = 5

// lister is a worker of lists, that the promises are about.
type lister = Worker[[]mem.Access, []uint64]

// filled is a memory of two regions, with another word, not 0, at each place, and
// other epochs: 1 in the region 0, 3 in the region 1.
func filled(t *testing.T) *mem.Memory {
	t.Helper()
	m, e := mem.New([]int{words, words})
	if e != api.OK {
		t.Fatal(e)
	}
	m.Bump(1)
	m.Bump(1)
	for r := range 2 {
		for at := range words {
			m.Do(m.Cap(r), store(at, uint64(100*r+at+10)))
		}
	}
	return m
}

// look is all of a memory that a pick can change.
type look struct {
	words []uint64
	count int
}

func seen(m *mem.Memory) look {
	l := look{count: m.Count()}
	for r := range m.Regions() {
		for at := range m.Size(r) {
			l.words = append(l.words, m.Peek(r, at))
		}
	}
	return l
}

func same(a, b look) bool { return a.count == b.count && slices.Equal(a.words, b.words) }

func load(at int) mem.Access            { return mem.Access{Op: mem.Load, At: at} }
func store(at int, w uint64) mem.Access { return mem.Access{Op: mem.Store, At: at, A: w} }
func add(at int, w uint64) mem.Access   { return mem.Access{Op: mem.Add, At: at, A: w} }
func swap(at int, was, w uint64) mem.Access {
	return mem.Access{Op: mem.Swap, At: at, A: was, B: w}
}

func list(l ...mem.Access) []mem.Access { return l }

// loads is a list of n loads.
func loads(n int) []mem.Access { return slices.Repeat(list(load(0)), n) }

// made is a worker of that size, to which the lists are given.
func made(t *testing.T, m *mem.Memory, size int, given ...[]mem.Access) *lister {
	t.Helper()
	w, e := Lists(m, size)
	if e != api.OK || w == nil {
		t.Fatalf("Lists of %d: %v, %v", size, w, e)
	}
	is(t, w, false, 0)
	for i, l := range given {
		gives(t, w, l, api.OK)
		is(t, w, false, i+1)
	}
	return w
}

// is asks whether the worker tells that.
func is[O, R any](t *testing.T, w *Worker[O, R], busy bool, waits int) {
	t.Helper()
	if w.Busy() != busy || w.Waits() != waits {
		t.Errorf("Busy %v, Waits %d; want %v, %d", w.Busy(), w.Waits(), busy, waits)
	}
}

// gives asks whether a Give answers that.
func gives[O, R any](t *testing.T, w *Worker[O, R], o O, want api.Errno) {
	t.Helper()
	if e := w.Give(o); e != want {
		t.Errorf("Give(%v): %v; want %v", o, e, want)
	}
}

// picks asks whether a Pick is that, whether R is empty in all but Done, and
// whether the pick does so many accesses as that kind must.
func picks(t *testing.T, m *mem.Memory, w *lister, c mem.Cap, kind, accesses int, r ...uint64) {
	t.Helper()
	before := seen(m)
	v := w.Pick(c)
	if v.Kind != kind || !slices.Equal(v.R, r) {
		t.Errorf("Pick: %v; want %d %v", v, kind, r)
	}
	after := seen(m)
	if after.count-before.count != accesses {
		t.Errorf("Pick: %d accesses; want %d", after.count-before.count, accesses)
	}
	if accesses == 0 && !same(before, after) {
		t.Errorf("a word is changed without an access: %v, %v", before, after)
	}
	// A worker is busy behind a Step, and behind no other event.
	if w.Busy() != (kind == Step) {
		t.Errorf("Busy behind the kind %d: %v", kind, w.Busy())
	}
}

func idle(t *testing.T, m *mem.Memory, w *lister, c mem.Cap) {
	t.Helper()
	picks(t, m, w, c, Idle, 0)
}

func steps(t *testing.T, m *mem.Memory, w *lister, c mem.Cap) {
	t.Helper()
	picks(t, m, w, c, Step, 1)
}

func lost(t *testing.T, m *mem.Memory, w *lister, c mem.Cap) {
	t.Helper()
	picks(t, m, w, c, Lost, 0)
}

// wrongCaps are capabilities that do nothing in a filled memory: of no region, of
// an earlier epoch, of a later one, and of epoch 0.
func wrongCaps() []mem.Cap {
	return []mem.Cap{
		{}, {Region: 1}, {Region: 1, Epoch: 1}, {Region: 1, Epoch: 2}, {Region: 1, Epoch: 4}, {Region: 0, Epoch: 2},
		{Region: 0, Epoch: 3}, {Region: 0, Epoch: ones}, {Region: -1, Epoch: 1}, {Region: 2, Epoch: 1}, {Region: 2},
		{Region: math.MinInt, Epoch: 1}, {Region: math.MaxInt, Epoch: 1}, {Region: 1 << 32, Epoch: 1},
	}
}

// wrongAccesses are accesses that no capability of a filled memory does: of no
// place, and of no operation.
func wrongAccesses() []mem.Access {
	var l []mem.Access
	for _, at := range []int{-1, words, words + 1, math.MinInt, math.MaxInt, 1 << 32, api.MaxWords} {
		l = append(l, load(at), store(at, 7), add(at, 7), swap(at, 0, 7))
	}
	for _, op := range []int{-1, 4, 5, math.MinInt, math.MaxInt, 1 << 32, 1<<32 + 1} {
		l = append(l, mem.Access{Op: op}, mem.Access{Op: op, At: 1, A: 11, B: 7})
	}
	return l
}

func TestKinds(t *testing.T) {
	if Idle != 0 || Step != 1 || Done != 2 || Lost != 3 {
		t.Error(Idle, Step, Done, Lost)
	}
}

// P5.1: Lists.

func TestListsOfManySizes(t *testing.T) {
	m := filled(t)
	before := seen(m)
	for _, size := range []int{1, 2, 3, 7, 64, 1000, api.MaxBox - 1, api.MaxBox} {
		w := made(t, m, size)
		for i := range size {
			gives(t, w, loads(i%3), api.OK)
			is(t, w, false, i+1)
		}
		gives(t, w, loads(1), api.ErrFull)
		is(t, w, false, size)
	}
	if !same(before, seen(m)) {
		t.Error("what only waits does an access")
	}
}

func TestListsOfWrongSizes(t *testing.T) {
	m := filled(t)
	before := seen(m)
	wrong := []int{0, -1, -2, -api.MaxBox, api.MaxBox + 1, 2 * api.MaxBox, 1 << 32, 1<<32 + 1, -1<<32 + 1,
		math.MaxInt32, math.MinInt32, math.MinInt, math.MinInt + 1, math.MaxInt - 1, math.MaxInt}
	for _, size := range wrong {
		if w, e := Lists(m, size); w != nil || e != api.ErrArg {
			t.Errorf("Lists of %d: %v, %v", size, w, e)
		}
		if w, e := New(m, size, prog.Get); w != nil || e != api.ErrArg {
			t.Errorf("New of %d: %v, %v", size, w, e)
		}
	}
	if !same(before, seen(m)) {
		t.Error("the memory is changed")
	}
}

// TestBoxesOfEachSizeAreDone: all that a full box has is done, in order.
func TestBoxesOfEachSizeAreDone(t *testing.T) {
	for _, size := range []int{1, 2, 5, api.MaxBox} {
		m := filled(t)
		c := m.Cap(0)
		m.Do(c, store(1, 0))
		w := made(t, m, size)
		for range size {
			gives(t, w, list(add(1, 1)), api.OK)
		}
		for i := range size {
			picks(t, m, w, c, Done, 1, uint64(i))
			is(t, w, false, size-i-1)
		}
		idle(t, m, w, c)
	}
}

// P5.1: Give.

func TestGiveIntoFull(t *testing.T) {
	m := filled(t)
	w := made(t, m, 2, list(store(0, 1)), list(store(0, 2)))
	before := seen(m)
	for _, l := range [][]mem.Access{nil, {}, loads(1), loads(9), wrongAccesses()} {
		gives(t, w, l, api.ErrFull)
		is(t, w, false, 2)
	}
	if !same(before, seen(m)) {
		t.Error("the memory is changed")
	}
	picks(t, m, w, m.Cap(0), Done, 1, 10)
	picks(t, m, w, m.Cap(0), Done, 1, 1)
	idle(t, m, w, m.Cap(0))
}

// TestWhatItIsAtTakesNoRoom: a busy worker's box has room for as many as its size.
func TestWhatItIsAtTakesNoRoom(t *testing.T) {
	for _, size := range []int{1, 2, 3, api.MaxBox} {
		m := filled(t)
		c := m.Cap(0)
		w := made(t, m, size, loads(3))
		steps(t, m, w, c)
		is(t, w, true, 0)
		for i := range size {
			gives(t, w, list(load(i%words)), api.OK)
			is(t, w, true, i+1)
		}
		gives(t, w, loads(1), api.ErrFull)
		is(t, w, true, size)
		steps(t, m, w, c)
		gives(t, w, loads(1), api.ErrFull)
		picks(t, m, w, c, Done, 1, 10, 10, 10)
		// What is done makes no room: what is begun does.
		is(t, w, false, size)
		gives(t, w, loads(1), api.ErrFull)
		for i := range size {
			picks(t, m, w, c, Done, 1, uint64(10+i%words))
			is(t, w, false, size-i-1)
		}
		idle(t, m, w, c)
	}
}

func TestGiveChangesNothingOfWhatItIsAt(t *testing.T) {
	m := filled(t)
	c := m.Cap(0)
	w := made(t, m, 1, list(load(1), load(2), load(3)))
	steps(t, m, w, c)
	gives(t, w, list(load(4)), api.OK)
	steps(t, m, w, c)
	gives(t, w, nil, api.ErrFull)
	picks(t, m, w, c, Done, 1, 11, 12, 13)
	picks(t, m, w, c, Done, 1, 14)
	idle(t, m, w, c)
}

// P5.2: Pick.

// TestExample is the chapter's.
func TestExample(t *testing.T) {
	m := filled(t)
	w := made(t, m, 1, list(load(0)))
	picks(t, m, w, m.Cap(0), Done, 1, 10)
	idle(t, m, w, m.Cap(0))
}

func TestListsOfManyAccesses(t *testing.T) {
	for _, n := range []int{1, 2, 3, 10, 1000, 100000} {
		m := filled(t)
		c := m.Cap(1)
		l := make([]mem.Access, n)
		want := make([]uint64, n)
		for i := range n {
			l[i], want[i] = add(2, uint64(i)), 112+uint64(i*(i-1)/2)
		}
		w := made(t, m, 3, l, loads(1))
		for i := range n - 1 {
			steps(t, m, w, c)
			is(t, w, true, 1)
			if t.Failed() {
				t.Fatal(n, i)
			}
		}
		picks(t, m, w, c, Done, 1, want...)
		is(t, w, false, 1)
		picks(t, m, w, c, Done, 1, 110)
	}
}

func TestEachOp(t *testing.T) {
	m := filled(t)
	c := m.Cap(0)
	w := made(t, m, 1, list(load(1), store(1, 7), swap(1, 7, 9), swap(1, 7, 5), add(1, ones), load(1)))
	for _, now := range []uint64{11, 7, 9, 9, 8} {
		steps(t, m, w, c)
		if m.Peek(0, 1) != now {
			t.Error(m.Peek(0, 1), now)
		}
	}
	picks(t, m, w, c, Done, 1, 11, 11, 7, 9, 9, 8)
}

// TestDoneWithoutAnAccess: a list of no access is done at its first pick, whatever
// the capability.
func TestDoneWithoutAnAccess(t *testing.T) {
	m := filled(t)
	for _, c := range append(wrongCaps(), m.Cap(0), m.Cap(1)) {
		w := made(t, m, 3, nil, list(), list(load(2)))
		picks(t, m, w, c, Done, 0)
		is(t, w, false, 2)
		picks(t, m, w, c, Done, 0)
		is(t, w, false, 1)
		picks(t, m, w, m.Cap(0), Done, 1, 12)
		picks(t, m, w, c, Idle, 0)
	}
}

// TestDoneAtTheLastAccess: a list is done at the pick that does its last access, and
// not at one behind it.
func TestDoneAtTheLastAccess(t *testing.T) {
	m := filled(t)
	c := m.Cap(1)
	w := made(t, m, 2, list(store(0, 1), store(0, 2)), list(load(0)))
	steps(t, m, w, c)
	is(t, w, true, 1)
	picks(t, m, w, c, Done, 1, 110, 1)
	is(t, w, false, 1)
	if m.Peek(1, 0) != 2 {
		t.Error(m.Peek(1, 0))
	}
	// The next one begins at the pick behind that, with an access at once.
	picks(t, m, w, c, Done, 1, 2)
}

func TestIdleAgainAndAgain(t *testing.T) {
	m := filled(t)
	w := made(t, m, 2)
	for range 3 {
		for _, c := range append(wrongCaps(), m.Cap(0), m.Cap(1)) {
			idle(t, m, w, c)
			is(t, w, false, 0)
		}
	}
	gives(t, w, loads(1), api.OK)
	is(t, w, false, 1)
	picks(t, m, w, m.Cap(0), Done, 1, 10)
	for range 3 {
		idle(t, m, w, m.Cap(0))
		is(t, w, false, 0)
	}
	gives(t, w, nil, api.OK)
	picks(t, m, w, m.Cap(0), Done, 0)
	idle(t, m, w, m.Cap(0))
}

func TestLostByWrongCapabilities(t *testing.T) {
	for _, c := range wrongCaps() {
		m := filled(t)
		good := m.Cap(0)
		w := made(t, m, 4, loads(1), list(load(1), load(2), load(3)), list(store(0, 7), load(0)), list(load(4)))
		// At the first access of a list of one, which is lost at the pick that takes it.
		lost(t, m, w, c)
		is(t, w, false, 3)
		// At the second of three.
		steps(t, m, w, good)
		lost(t, m, w, c)
		is(t, w, false, 2)
		// The next thing begins at its own beginning, not where the lost one was.
		steps(t, m, w, good)
		picks(t, m, w, good, Done, 1, 10, 7)
		lost(t, m, w, c)
		is(t, w, false, 0)
		idle(t, m, w, c)
		idle(t, m, w, good)
	}
}

func TestLostAtTheLastAccess(t *testing.T) {
	m := filled(t)
	w := made(t, m, 2, list(store(0, 1), store(0, 2), store(0, 3)), list(load(0)))
	steps(t, m, w, m.Cap(0))
	steps(t, m, w, m.Cap(0))
	lost(t, m, w, mem.Cap{})
	is(t, w, false, 1)
	// What it did ahead of that stays done, and nothing of it is told.
	picks(t, m, w, m.Cap(0), Done, 1, 2)
}

func TestLostByWrongAccesses(t *testing.T) {
	for _, a := range wrongAccesses() {
		m := filled(t)
		for _, c := range []mem.Cap{m.Cap(0), m.Cap(1)} {
			w := made(t, m, 3, list(a), list(load(1), a, store(2, 99)), list(load(2)))
			lost(t, m, w, c)
			is(t, w, false, 2)
			steps(t, m, w, c)
			is(t, w, true, 1)
			lost(t, m, w, c)
			is(t, w, false, 1)
			picks(t, m, w, c, Done, 1, m.Peek(c.Region, 2))
			if m.Peek(c.Region, 2) == 99 {
				t.Error("an access behind a refused one was done:", a)
			}
			idle(t, m, w, c)
		}
	}
}

// TestBumped: what is at its second access when the region is bumped is lost by the
// old capability, and so is all that is begun by it.
func TestBumped(t *testing.T) {
	m := filled(t)
	old := m.Cap(0)
	w := made(t, m, 3, list(store(0, 1), store(0, 2)), list(store(0, 3)), list(load(0), load(0)))
	steps(t, m, w, old)
	now, _ := m.Bump(0)
	lost(t, m, w, old)
	is(t, w, false, 2)
	lost(t, m, w, old)
	is(t, w, false, 1)
	steps(t, m, w, now)
	picks(t, m, w, now, Done, 1, 1, 1)
	idle(t, m, w, old)
}

// TestBumpedAndPickedByTheNewCapability: a worker keeps no capability: what is picked
// with the new one goes on.
func TestBumpedAndPickedByTheNewCapability(t *testing.T) {
	m := filled(t)
	w := made(t, m, 1, list(store(0, 1), load(0), load(0)))
	steps(t, m, w, m.Cap(0))
	m.Bump(0)
	steps(t, m, w, m.Cap(0))
	// The other region's bump is nothing to it.
	c := m.Cap(0)
	m.Bump(1)
	picks(t, m, w, c, Done, 1, 10, 1, 1)
}

// TestEachPickHasItsCapability: a program goes on in the region of the pick.
func TestEachPickHasItsCapability(t *testing.T) {
	m := filled(t)
	w := made(t, m, 1, list(load(3), load(3), load(3)))
	steps(t, m, w, m.Cap(1))
	steps(t, m, w, m.Cap(0))
	picks(t, m, w, m.Cap(1), Done, 1, 113, 13, 113)
}

// TestEmptyBehindLost: a list of no access is done behind a lost one, by the same
// capability.
func TestEmptyBehindLost(t *testing.T) {
	m := filled(t)
	w := made(t, m, 3, loads(2), nil, loads(2))
	lost(t, m, w, mem.Cap{})
	picks(t, m, w, mem.Cap{}, Done, 0)
	lost(t, m, w, mem.Cap{})
	idle(t, m, w, mem.Cap{})
}

func TestAMemoryWithoutRegions(t *testing.T) {
	m, _ := mem.New(nil)
	w := made(t, m, 2, loads(1), nil)
	lost(t, m, w, m.Cap(0))
	picks(t, m, w, m.Cap(0), Done, 0)
	idle(t, m, w, m.Cap(0))
}

// R5: what is given is done as it was given, and what was answered is who got it's.

func TestAListChangedWhileItWaits(t *testing.T) {
	m := filled(t)
	c := m.Cap(0)
	l := list(store(0, 1), load(0), store(1, 2))
	w := made(t, m, 2, l, l[:1])
	l[0], l[1], l[2] = store(4, 99), mem.Access{Op: 77}, load(-1)
	steps(t, m, w, c)
	steps(t, m, w, c)
	picks(t, m, w, c, Done, 1, 10, 1, 11)
	picks(t, m, w, c, Done, 1, 1)
	if m.Peek(0, 0) != 1 || m.Peek(0, 1) != 2 || m.Peek(0, 4) != 14 {
		t.Error(seen(m))
	}
}

func TestAListChangedWhileItIsDone(t *testing.T) {
	m := filled(t)
	c := m.Cap(0)
	l := list(load(0), load(1), load(2), load(3))
	w := made(t, m, 1, l)
	for i := range l {
		if i == len(l)-1 {
			picks(t, m, w, c, Done, 1, 10, 11, 12, 13)
			break
		}
		steps(t, m, w, c)
		for j := range l {
			l[j] = store(4, 99)
		}
	}
}

// TestAListIsLeftAsItIs: its elements, and its spare room.
func TestAListIsLeftAsItIs(t *testing.T) {
	m := filled(t)
	whole := list(load(0), add(1, 1), swap(2, 12, 5), store(3, 4), mem.Access{Op: 9, At: -1, A: 3, B: 4})
	want := slices.Clone(whole)
	w := made(t, m, 3, whole[:2], whole[1:3], whole[:0])
	gives(t, w, whole[:4], api.ErrFull)
	for range 6 {
		w.Pick(m.Cap(0))
		w.Give(whole[2:4])
	}
	if !slices.Equal(whole, want) {
		t.Error(whole)
	}
}

// TestOneListGivenTwice: each of the two is done, whole.
func TestOneListGivenTwice(t *testing.T) {
	m := filled(t)
	c := m.Cap(0)
	l := list(add(0, 1), add(0, 1))
	w := made(t, m, 2, l, l)
	steps(t, m, w, c)
	picks(t, m, w, c, Done, 1, 10, 11)
	steps(t, m, w, c)
	picks(t, m, w, c, Done, 1, 12, 13)
}

func TestAnAnswerThatIsChanged(t *testing.T) {
	m := filled(t)
	c := m.Cap(0)
	w := made(t, m, 3, list(load(0), load(1)), list(load(2), load(3)), list(load(0), load(1)))
	steps(t, m, w, c)
	first := w.Pick(c)
	if first.Kind != Done || !slices.Equal(first.R, []uint64{10, 11}) {
		t.Fatal(first)
	}
	first.R[0], first.R[1] = 77, 78
	spare := first.R[:cap(first.R)]
	for i := range spare {
		spare[i] = 79
	}
	steps(t, m, w, c)
	picks(t, m, w, c, Done, 1, 12, 13)
	steps(t, m, w, c)
	picks(t, m, w, c, Done, 1, 10, 11)
	if first.R[0] != 79 || first.R[1] != 79 {
		t.Error("an answer is changed behind:", first)
	}
}

// R7: two workers do not hang on one another, but by the one memory.

func TestTwoWorkersOverOneMemory(t *testing.T) {
	m := filled(t)
	c := m.Cap(0)
	a := made(t, m, 1, list(load(0), add(0, 5), load(0)))
	b := made(t, m, 2, list(add(0, 100), load(0)))
	gives(t, a, loads(1), api.ErrFull)
	gives(t, b, loads(1), api.OK)
	steps(t, m, a, c)
	is(t, b, false, 2)
	steps(t, m, b, c)
	is(t, a, true, 0)
	steps(t, m, a, c)
	// What the one does is seen by the other in the memory, and nowhere else.
	picks(t, m, b, c, Done, 1, 10, 115)
	is(t, a, true, 0)
	is(t, b, false, 1)
	picks(t, m, a, c, Done, 1, 10, 110, 115)
	is(t, b, false, 1)
	idle(t, m, a, c)
	picks(t, m, b, c, Done, 1, 115)
}

func TestOneIsLostAndTheOtherGoesOn(t *testing.T) {
	m := filled(t)
	a := made(t, m, 2, loads(2), loads(1))
	b := made(t, m, 2, loads(2), loads(1))
	steps(t, m, a, m.Cap(0))
	steps(t, m, b, m.Cap(1))
	old := m.Cap(0)
	m.Bump(0)
	lost(t, m, a, old)
	is(t, b, true, 1)
	picks(t, m, b, m.Cap(1), Done, 1, 110, 110)
	is(t, a, false, 1)
}

func TestTwoWorkersOverTwoMemories(t *testing.T) {
	m, n := filled(t), filled(t)
	l := list(store(0, 1), load(0))
	a, b := made(t, m, 1, l), made(t, n, 1, l)
	before := seen(n)
	steps(t, m, a, m.Cap(0))
	picks(t, m, a, m.Cap(0), Done, 1, 10, 1)
	is(t, b, false, 1)
	if !same(before, seen(n)) {
		t.Error("the other's memory is changed")
	}
	steps(t, n, b, n.Cap(0))
	picks(t, n, b, n.Cap(0), Done, 1, 10, 1)
}

// Workers of other things than lists, that the layers above make by New.

func TestOtherThings(t *testing.T) {
	m := filled(t)
	c := m.Cap(0)
	var begun []string
	w, e := New(m, 2, func(s string) prog.Prog[bool] {
		begun = append(begun, s)
		return prog.Then(prog.Get(len(s)), func(was uint64) prog.Prog[bool] { return prog.Try(0, was-1, 5) })
	})
	if e != api.OK {
		t.Fatal(e)
	}
	gives(t, w, "a", api.OK)
	gives(t, w, "abc", api.OK)
	gives(t, w, "b", api.ErrFull)
	if len(begun) != 0 {
		t.Error("begun ahead of a pick:", begun)
	}
	for i, want := range []Event[bool]{{Kind: Step}, {Kind: Done, R: true}, {Kind: Step}, {Kind: Done}, {}} {
		if v := w.Pick(c); v != want {
			t.Error(i, v, want)
		}
	}
	if !slices.Equal(begun, []string{"a", "abc"}) {
		t.Error("a thing is begun once, in order:", begun)
	}
}

// TestDoneIsToldOnce: what is over at once is told with its R, by one pick, and an R
// is zero in every other event.
func TestDoneIsToldOnce(t *testing.T) {
	m := filled(t)
	w, _ := New(m, 3, func(n int) prog.Prog[int] {
		if n < 0 {
			return prog.Then(prog.Get(n), func(uint64) prog.Prog[int] { return prog.Done(n) })
		}
		return prog.Done(n + 1)
	})
	for _, n := range []int{4, -1, 0} {
		gives(t, w, n, api.OK)
	}
	before := seen(m)
	for i, want := range []Event[int]{{Kind: Done, R: 5}, {Kind: Lost}, {Kind: Done, R: 1}, {}, {}} {
		if v := w.Pick(m.Cap(0)); v != want {
			t.Error(i, v, want)
		}
		is(t, w, false, max(0, 2-i))
	}
	if !same(before, seen(m)) {
		t.Error("the memory is changed")
	}
}

// P5.3: long rows of gives and picks, beside a model.

// model is what a worker of lists must be: the things that wait, and what it is at.
type model struct {
	size  int
	waits [][]mem.Access
	busy  bool
	left  []mem.Access
	told  []uint64
}

func (w *model) give(l []mem.Access) api.Errno {
	if len(w.waits) == w.size {
		return api.ErrFull
	}
	w.waits = append(w.waits, slices.Clone(l))
	return api.OK
}

func (w *model) pick(m *mem.Memory, c mem.Cap) Event[[]uint64] {
	if !w.busy && len(w.waits) == 0 {
		return Event[[]uint64]{Kind: Idle}
	}
	if !w.busy {
		w.busy, w.left, w.told, w.waits = true, w.waits[0], nil, w.waits[1:]
	}
	if len(w.left) > 0 {
		word, ok := m.Do(c, w.left[0])
		if !ok {
			w.busy = false
			return Event[[]uint64]{Kind: Lost}
		}
		w.left, w.told = w.left[1:], append(w.told, word)
	}
	if len(w.left) > 0 {
		return Event[[]uint64]{Kind: Step}
	}
	w.busy = false
	return Event[[]uint64]{Kind: Done, R: w.told}
}

// rows draws numbers by a fixed rule, so that each run is the same.
type rows struct{ at uint64 }

func (r *rows) below(n int) int {
	r.at = r.at*6364136223846793005 + 1442695040888963407
	return int(r.at >> 33 % uint64(n))
}

// list is a list of a few accesses; now and then one of them is refused.
func (r *rows) list() []mem.Access {
	var l []mem.Access
	wrong := wrongAccesses()
	for range r.below(6) {
		a := mem.Access{Op: r.below(4), At: r.below(words), A: uint64(r.below(4)), B: uint64(r.below(4))}
		if r.below(25) == 0 {
			a = wrong[r.below(len(wrong))]
		}
		l = append(l, a)
	}
	return l
}

// cap is one of the good capabilities mostly, now and then one that may not be.
func (r *rows) cap(m *mem.Memory) mem.Cap {
	if r.below(20) == 0 {
		return mem.Cap{Region: r.below(4) - 1, Epoch: uint64(r.below(5))}
	}
	return m.Cap(r.below(2))
}

// TestBesideModel: several workers over one memory, beside models over another; the
// lists that were given, and those that were answered, are overwritten at once.
func TestBesideModel(t *testing.T) {
	for turn, sizes := range [][]int{{1}, {1, 1}, {1, 3}, {2, 5, 4}, {40, 1, 7, 2}} {
		r := &rows{at: uint64(turn)}
		m, beside := filled(t), filled(t)
		var workers []*lister
		var models []*model
		for _, size := range sizes {
			workers, models = append(workers, made(t, m, size)), append(models, &model{size: size})
		}
		kinds := make([]int, 4)
		for round := range 20000 {
			i := r.below(len(sizes))
			// Where gives are many the boxes are full now and then, where few, empty.
			if many := round / 500 % 2; r.below(8) < 1+5*many {
				l := r.list()
				want := models[i].give(l)
				gives(t, workers[i], l, want)
				for j := range l {
					l[j] = store(0, ones)
				}
			} else {
				c := r.cap(m)
				v, want := workers[i].Pick(c), models[i].pick(beside, c)
				if v.Kind != want.Kind || !slices.Equal(v.R, want.R) {
					t.Errorf("Pick: %v; want %v", v, want)
				}
				for j := range v.R {
					v.R[j] = ones
				}
				kinds[v.Kind]++
			}
			if r.below(200) == 0 {
				n := r.below(2)
				m.Bump(n)
				beside.Bump(n)
			}
			for j, w := range workers {
				is(t, w, models[j].busy, len(models[j].waits))
			}
			if !same(seen(m), seen(beside)) {
				t.Errorf("the memory is %v; want %v", seen(m), seen(beside))
			}
			if t.Failed() {
				t.Fatalf("sizes %v, round %d", sizes, round)
			}
		}
		if slices.Min(kinds) < 50 {
			t.Errorf("sizes %v: too few of a kind: %v", sizes, kinds)
		}
	}
}

// TestOneAccessAtMost: behind each pick the memory's Count is the same or one more,
// and one word at most is another.
func TestOneAccessAtMost(t *testing.T) {
	r := &rows{at: 99}
	m := filled(t)
	w := made(t, m, api.MaxBox)
	for range 2000 {
		gives(t, w, r.list(), api.OK)
	}
	for range 8000 {
		before := seen(m)
		v := w.Pick(r.cap(m))
		after := seen(m)
		changed := 0
		for i := range before.words {
			if before.words[i] != after.words[i] {
				changed++
			}
		}
		n := after.count - before.count
		if n < 0 || n > 1 || changed > n || v.Kind == Step && n != 1 || (v.Kind == Idle || v.Kind == Lost) && n != 0 {
			t.Fatal(v, n, changed)
		}
		if v.Kind != Done && len(v.R) != 0 {
			t.Fatal(v)
		}
	}
	is(t, w, false, 0)
}
