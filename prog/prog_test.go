package prog

import (
	"math"
	"slices"
	"testing"

	"cubicle/api"
	"cubicle/mem"
)

const ones = math.MaxUint64

// size is how many words a region of the tests has.
const size = 6

// filled is a memory of two regions, with another word, not 0, at each place, and
// other epochs.
func filled(t *testing.T) *mem.Memory {
	t.Helper()
	m, e := mem.New([]int{size, size})
	if e != api.OK {
		t.Fatal(e)
	}
	m.Bump(1)
	for r := range 2 {
		for at := range size {
			m.Do(m.Cap(r), mem.Access{Op: mem.Store, At: at, A: uint64(100*r + at + 10)})
		}
	}
	return m
}

// words are all words of the memory, region by region.
func words(m *mem.Memory) []uint64 {
	var l []uint64
	for r := range m.Regions() {
		for at := range m.Size(r) {
			l = append(l, m.Peek(r, at))
		}
	}
	return l
}

// look is all of a memory that a program can change.
type look struct {
	words []uint64
	count int
}

func seen(m *mem.Memory) look { return look{words(m), m.Count()} }

func same(a, b look) bool { return a.count == b.count && slices.Equal(a.words, b.words) }

func load(at int) mem.Access            { return mem.Access{Op: mem.Load, At: at} }
func store(at int, w uint64) mem.Access { return mem.Access{Op: mem.Store, At: at, A: w} }
func add(at int, w uint64) mem.Access   { return mem.Access{Op: mem.Add, At: at, A: w} }
func swap(at int, was, w uint64) mem.Access {
	return mem.Access{Op: mem.Swap, At: at, A: was, B: w}
}

func list(l ...mem.Access) Prog[[]uint64] { return List(l) }

// isOver fails unless the program is over, with what same takes for right, has no
// access, and a step of it is refused and leaves it as it is.
func isOver[R any](t *testing.T, name string, p Prog[R], right func(R) bool) {
	t.Helper()
	m := filled(t)
	was := seen(m)
	for range 3 {
		if r, over := p.Over(); !over || !right(r) {
			t.Fatalf("%s: Over: %v, %v", name, r, over)
		}
		if a, ok := p.Access(); ok || a != (mem.Access{}) {
			t.Fatalf("%s: Access: %v, %v", name, a, ok)
		}
		q, ok := p.Step(m, m.Cap(0))
		if ok || !same(was, seen(m)) {
			t.Fatalf("%s: it is over, and does a step", name)
		}
		p = q
	}
	for _, most := range []int{math.MinInt, -1, 0, 1, 2, math.MaxInt} {
		if r, n, over := Run(p, m, m.Cap(0), most); !over || n != 0 || !right(r) || !same(was, seen(m)) {
			t.Fatalf("%s: Run to %d: %v, %d, %v", name, most, r, n, over)
		}
	}
}

// waits fails unless the program isn't over, and has that access.
func waits[R any](t *testing.T, name string, p Prog[R], zero func(R) bool, want mem.Access) {
	t.Helper()
	if r, over := p.Over(); over || !zero(r) {
		t.Fatalf("%s: Over: %v, %v", name, r, over)
	}
	if a, ok := p.Access(); !ok || a != want {
		t.Fatalf("%s: Access: %v, %v, not %v", name, a, ok, want)
	}
}

func is[R comparable](want R) func(R) bool { return func(r R) bool { return r == want } }

func isList(want ...uint64) func([]uint64) bool {
	return func(r []uint64) bool { return slices.Equal(r, want) }
}

// whole goes through a program of those accesses, step by step, and holds what
// each does against the accesses done one behind the other in another memory.
func whole[R any](t *testing.T, name string, p Prog[R], l []mem.Access, zero func(R) bool, right func(R, []uint64) bool) {
	t.Helper()
	m, beside := filled(t), filled(t)
	var told []uint64
	for _, a := range l {
		waits(t, name, p, zero, a)
		w, _ := beside.Do(beside.Cap(0), a)
		told = append(told, w)
		q, ok := p.Step(m, m.Cap(0))
		if !ok || !same(seen(m), seen(beside)) {
			t.Fatalf("%s: a step: %v, %v, not %v", name, ok, seen(m), seen(beside))
		}
		p = q
	}
	isOver(t, name, p, func(r R) bool { return right(r, told) })
}

// runs runs a program of n accesses to each most, from a fresh memory each time,
// and holds it against the steps.
func runs[R any](t *testing.T, name string, p Prog[R], n int, zero func(R) bool, right func(R) bool) {
	t.Helper()
	mosts := []int{math.MinInt, math.MinInt + 1, -2, -1, 0, n - 1, n, n + 1, math.MaxInt - 1, math.MaxInt}
	for i := range n {
		mosts = append(mosts, i)
	}
	for _, most := range mosts {
		m, beside := filled(t), filled(t)
		want, q := min(max(most, 0), n), p
		for range want {
			q, _ = q.Step(beside, beside.Cap(0))
		}
		r, steps, over := Run(p, m, m.Cap(0), most)
		if steps != want || over != (want == n) || !same(seen(m), seen(beside)) {
			t.Errorf("%s: Run to %d: %d steps, over %v", name, most, steps, over)
		}
		if over && !right(r) || !over && !zero(r) {
			t.Errorf("%s: Run to %d: %v, over %v", name, most, r, over)
		}
	}
}

func TestDone(t *testing.T) {
	isOver(t, "Done of a text", Done("x"), is("x"))
	isOver(t, "Done of a zero text", Done(""), is(""))
	isOver(t, "Done of a word", Done(uint64(ones)), is(uint64(ones)))
	isOver(t, "Done of a number", Done(-1), is(-1))
	isOver(t, "Done of true", Done(true), is(true))
	isOver(t, "Done of None", Done(None{}), is(None{}))
	isOver(t, "Done of a struct", Done(api.Res{E: api.ErrFull}), is(api.Res{E: api.ErrFull}))
	isOver(t, "Done of a list", Done([]uint64{4, 5}), isList(4, 5))
	isOver(t, "Done of no list", Done([]uint64(nil)), isList())
	at := 3
	isOver(t, "Done of a pointer", Done(&at), is(&at))
	isOver(t, "Done of texts", Done([]string{"a"}), func(r []string) bool { return slices.Equal(r, []string{"a"}) })
}

func TestGet(t *testing.T) {
	for at := range size {
		whole(t, "Get", Get(at), []mem.Access{load(at)}, is(uint64(0)), func(r uint64, told []uint64) bool { return r == told[0] })
		runs(t, "Get", Get(at), 1, is(uint64(0)), is(uint64(at+10)))
	}
}

func TestSet(t *testing.T) {
	for at := range size {
		for _, w := range []uint64{0, 1, uint64(at + 10), 1 << 32, 1 << 63, ones} {
			whole(t, "Set", Set(at, w), []mem.Access{store(at, w)}, is(None{}), func(None, []uint64) bool { return true })
			m := filled(t)
			if _, n, over := Run(Set(at, w), m, m.Cap(0), 1); n != 1 || !over || m.Peek(0, at) != w {
				t.Errorf("Set(%d, %d): %d, %v: %d", at, w, n, over, m.Peek(0, at))
			}
		}
	}
	runs(t, "Set", Set(0, 5), 1, is(None{}), is(None{}))
}

func TestTry(t *testing.T) {
	for at := range size {
		word := uint64(at + 10)
		for _, was := range []uint64{0, word - 1, word, word + 1, word | 1<<32, word | 1<<63, ones} {
			for _, w := range []uint64{0, 1, word, word + 1, was, ones} {
				l := []mem.Access{swap(at, was, w)}
				whole(t, "Try", Try(at, was, w), l, is(false), func(r bool, told []uint64) bool { return r == (told[0] == was) })
				runs(t, "Try", Try(at, was, w), 1, is(false), is(was == word))
				m := filled(t)
				Run(Try(at, was, w), m, m.Cap(0), 1)
				if now := m.Peek(0, at); was == word && now != w || was != word && now != word {
					t.Errorf("Try(%d, %d, %d): %d", at, was, w, now)
				}
			}
		}
	}
}

// every is accesses of every Op, some of them at one place.
func every() []mem.Access {
	return []mem.Access{
		load(3), store(3, 7), load(3), swap(3, 7, 9), swap(3, 7, 8), load(3), add(3, 5), add(3, ones), load(3),
		{Op: mem.Load, At: 1, A: 4, B: 5}, {Op: mem.Store, At: 1, A: 4, B: 5}, {Op: mem.Add, At: 1, A: 4, B: 5},
		store(0, ones), add(0, 1), load(0), swap(size-1, 0, 1), swap(size-1, 15, 0), load(size - 1),
	}
}

func TestList(t *testing.T) {
	l := every()
	for n := range len(l) + 1 {
		whole(t, "List", List(l[:n]), l[:n], isList(), func(r, told []uint64) bool { return slices.Equal(r, told) })
	}
	want := []uint64{13, 13, 7, 7, 9, 9, 9, 14, 13, 11, 11, 4, 10, ones, 0, 15, 15, 0}
	runs(t, "List", List(l), len(l), isList(), isList(want...))
}

func TestListOfNone(t *testing.T) {
	isOver(t, "List of nil", List(nil), isList())
	isOver(t, "List of no accesses", List([]mem.Access{}), isList())
	isOver(t, "List of no accesses, with spare room", List(every()[:0]), isList())
}

func TestJoin(t *testing.T) {
	l := every()
	for n := range len(l) + 1 {
		for k := range n + 1 {
			p := Join(List(l[:k]), List(l[k:n]))
			whole(t, "Join", p, l[:n], isList(), func(r, told []uint64) bool { return slices.Equal(r, told) })
		}
	}
	p := Join(list(load(3), store(3, 7)), list(add(3, 1), load(3), load(0)))
	runs(t, "Join", p, 5, isList(), isList(13, 13, 7, 8, 10))
}

// TestJoinOver: the one, the other, or both are over at once.
func TestJoinOver(t *testing.T) {
	none := List(nil)
	isOver(t, "both, empty", Join(none, none), isList())
	isOver(t, "both", Join(Done([]uint64{1, 2}), Done([]uint64{3})), isList(1, 2, 3))
	isOver(t, "the second one empty", Join(Done([]uint64{1, 2}), none), isList(1, 2))
	isOver(t, "the first one empty", Join(none, Done([]uint64{3})), isList(3))
	isOver(t, "four", Join(Join(Done([]uint64{1}), Done([]uint64{2})), Join(Done([]uint64{3}), none)), isList(1, 2, 3))
	p := list(load(1), load(2))
	runs(t, "the first one", Join(Done([]uint64{8, 9}), p), 2, isList(), isList(8, 9, 11, 12))
	runs(t, "the second one", Join(p, Done([]uint64{8, 9})), 2, isList(), isList(11, 12, 8, 9))
	runs(t, "the first one, of nothing", Join(none, p), 2, isList(), isList(11, 12))
	runs(t, "the second one, of nothing", Join(p, none), 2, isList(), isList(11, 12))
	waits(t, "the first one", Join(Done([]uint64{8, 9}), p), isList(), load(1))
	waits(t, "the second one", Join(p, Done([]uint64{8, 9})), isList(), load(1))
}

// TestJoinGoesOn: no step is between the two; the access behind the first one's
// last step is the second one's first.
func TestJoinGoesOn(t *testing.T) {
	m := filled(t)
	p, ok := Join(list(load(1)), list(load(2))).Step(m, m.Cap(0))
	if !ok {
		t.Fatal("a step is refused")
	}
	waits(t, "behind the first one", p, isList(), load(2))
	q, _ := Join(list(load(1)), Join(List(nil), Join(Done([]uint64{4}), list(load(5))))).Step(m, m.Cap(0))
	waits(t, "behind two that are over at once", q, isList(), load(5))
	runs(t, "two that are over between", Join(list(load(1)), Join(List(nil), Join(Done([]uint64{4}), list(load(5))))), 2, isList(), isList(11, 4, 15))
}

// TestJoinOfPartlyDone: what is joined may be a program that some steps were done of.
func TestJoinOfPartlyDone(t *testing.T) {
	m := filled(t)
	p, _ := list(store(0, 1), load(1), load(2)).Step(m, m.Cap(0))
	q, _ := Join(list(store(3, 2)), list(load(4))).Step(m, m.Cap(0))
	m.Do(m.Cap(0), store(0, 10))
	m.Do(m.Cap(0), store(3, 13))
	runs(t, "Join of partly done ones", Join(p, q), 3, isList(), isList(10, 11, 12, 13, 14))
	runs(t, "Join of that and one more", Join(Join(p, q), list(load(5))), 4, isList(), isList(10, 11, 12, 13, 14, 15))
	runs(t, "Join of one and those", Join(list(load(5)), Join(q, p)), 4, isList(), isList(15, 13, 14, 10, 11, 12))
}

func TestJoinOfItself(t *testing.T) {
	p := list(add(2, 1), load(2))
	p = Join(p, p)
	p = Join(p, p)
	runs(t, "four times", p, 8, isList(), isList(12, 13, 13, 14, 14, 15, 15, 16))
}

func TestExample(t *testing.T) {
	m := filled(t)
	p := Join(list(load(3)), list(store(3, 7)))
	r, n, over := Run(p, m, m.Cap(0), 100)
	if !slices.Equal(r, []uint64{13, 13}) || n != 2 || !over || m.Peek(0, 3) != 7 {
		t.Error(r, n, over, m.Peek(0, 3))
	}
}

// bad are accesses that layer 2 refuses, by any capability.
func bad() []mem.Access {
	var l []mem.Access
	for _, at := range []int{math.MinInt, math.MinInt + 1, math.MinInt32, -size, -1, size, size + 1, 2 * size, 1 << 32, math.MaxInt - 1, math.MaxInt} {
		l = append(l, load(at), store(at, 1), swap(at, 0, 1), add(at, 1))
	}
	for _, op := range []int{math.MinInt, -4, -1, 4, 5, 1 << 32, math.MaxInt} {
		l = append(l, mem.Access{Op: op, At: 1, A: 11, B: 1})
	}
	return l
}

// refused fails unless a step of the program is refused, leaves all as it is, and
// is the program itself; a Run too.
func refused[R any](t *testing.T, name string, p Prog[R], m *mem.Memory, c mem.Cap, zero func(R) bool) {
	t.Helper()
	was := seen(m)
	a, _ := p.Access()
	for range 2 {
		q, ok := p.Step(m, c)
		if ok || !same(was, seen(m)) {
			t.Fatalf("%s: %v isn't refused", name, a)
		}
		p = q
		waits(t, name, p, zero, a)
	}
	for _, most := range []int{math.MinInt, -1, 0, 1, 2, 100, math.MaxInt} {
		if r, n, over := Run(p, m, c, most); !zero(r) || n != 0 || over || !same(was, seen(m)) {
			t.Fatalf("%s: Run of %v: %v, %d, %v", name, a, r, n, over)
		}
	}
}

func TestWrongPlaces(t *testing.T) {
	m := filled(t)
	c := m.Cap(0)
	for _, at := range []int{math.MinInt, math.MinInt32, -1, size, size + 1, math.MaxInt32, math.MaxInt} {
		refused(t, "Get", Get(at), m, c, is(uint64(0)))
		refused(t, "Set", Set(at, 1), m, c, is(None{}))
		refused(t, "Try", Try(at, 0, 1), m, c, is(false))
		waits(t, "Get", Get(at), is(uint64(0)), load(at))
		waits(t, "Set", Set(at, 1), is(None{}), store(at, 1))
		waits(t, "Try", Try(at, 2, 1), is(false), swap(at, 2, 1))
	}
}

// TestWrongAccess: one that is refused as the first, a middle and the last one, of
// a list and of joins.
func TestWrongAccess(t *testing.T) {
	for _, wrong := range bad() {
		for n := range 4 {
			l := []mem.Access{store(0, 1), add(1, 2), load(2)}
			l = slices.Insert(l, n, wrong)
			for k := range len(l) + 1 {
				p := Join(List(l[:k]), List(l[k:]))
				m := filled(t)
				r, steps, over := Run(p, m, m.Cap(0), 9)
				if len(r) != 0 || steps != n || over || m.Count() != 2*size+n {
					t.Fatalf("%v at %d: %v, %d, %v", wrong, n, r, steps, over)
				}
				m = filled(t)
				for range n {
					p, _ = p.Step(m, m.Cap(0))
				}
				refused(t, "Join", p, m, m.Cap(0), isList())
			}
		}
		m := filled(t)
		refused(t, "List", list(wrong), m, m.Cap(0), isList())
		refused(t, "List", list(wrong, load(0)), m, m.Cap(0), isList())
	}
}

// wrongCaps are capabilities that aren't good in a filled memory.
func wrongCaps() []mem.Cap {
	return []mem.Cap{
		{}, {Region: 0, Epoch: 0}, {Region: 0, Epoch: 2}, {Region: 0, Epoch: ones}, {Region: 1, Epoch: 1}, {Region: 1, Epoch: 3},
		{Region: 2, Epoch: 1}, {Region: -1, Epoch: 1}, {Region: math.MinInt, Epoch: 1}, {Region: math.MaxInt, Epoch: 1},
	}
}

func TestWrongCap(t *testing.T) {
	for _, c := range wrongCaps() {
		m := filled(t)
		refused(t, "Get", Get(1), m, c, is(uint64(0)))
		refused(t, "Set", Set(1, 5), m, c, is(None{}))
		refused(t, "Try", Try(1, 11, 5), m, c, is(false))
		refused(t, "List", List(every()), m, c, isList())
		refused(t, "Join", Join(list(load(1)), list(store(1, 5))), m, c, isList())
		isOver(t, "Done", Done(4), is(4))
		if r, n, over := Run(Done(4), m, c, 5); r != 4 || n != 0 || !over {
			t.Error(r, n, over)
		}
	}
}

// TestCapEnds: behind so many steps the region's epoch ends; the program goes on by
// the next capability, from where it was.
func TestCapEnds(t *testing.T) {
	l := every()
	_, want, _ := wholeRun(t, l)
	for n := range len(l) {
		m := filled(t)
		c := m.Cap(0)
		p := Join(List(l[:n/2]), List(l[n/2:]))
		for range n {
			p, _ = p.Step(m, c)
		}
		d, _ := m.Bump(0)
		refused(t, "behind the epoch's end", p, m, c, isList())
		r, steps, over := Run(p, m, d, len(l))
		if !slices.Equal(r, want) || steps != len(l)-n || !over {
			t.Errorf("behind %d steps: %v, %d, %v", n, r, steps, over)
		}
	}
}

// wholeRun is what the accesses do and tell in a filled memory, done by layer 2 alone.
func wholeRun(t *testing.T, l []mem.Access) (*mem.Memory, []uint64, look) {
	t.Helper()
	m := filled(t)
	var told []uint64
	for _, a := range l {
		w, _ := m.Do(m.Cap(0), a)
		told = append(told, w)
	}
	return m, told, seen(m)
}

// TestOtherRegion: a capability is the region where a program's places are.
func TestOtherRegion(t *testing.T) {
	m := filled(t)
	if r, n, over := Run(Get(2), m, m.Cap(1), 1); r != 112 || n != 1 || !over {
		t.Error(r, n, over)
	}
	p := list(store(1, 5), load(1))
	p, _ = p.Step(m, m.Cap(0))
	if r, n, over := Run(p, m, m.Cap(1), 5); !slices.Equal(r, []uint64{11, 111}) || n != 1 || !over || m.Peek(0, 1) != 5 || m.Peek(1, 1) != 111 {
		t.Error(r, n, over)
	}
}

func TestThen(t *testing.T) {
	twice := func(w uint64) Prog[uint64] {
		return Then(Set(0, 2*w), func(None) Prog[uint64] { return Get(0) })
	}
	whole(t, "Then", Then(Get(3), twice), []mem.Access{load(3), store(0, 26), load(0)}, is(uint64(0)), func(r uint64, told []uint64) bool { return r == 26 })
	runs(t, "Then", Then(Get(3), twice), 3, is(uint64(0)), is(uint64(26)))
	runs(t, "Then of one that is over", Then(Done(uint64(4)), twice), 2, is(uint64(0)), is(uint64(8)))
	runs(t, "Then to one that is over", Then(Get(3), func(w uint64) Prog[string] { return Done("x") }), 1, is(""), is("x"))
	isOver(t, "Then of two that are over", Then(Done(4), func(n int) Prog[bool] { return Done(n == 4) }), is(true))
	m := filled(t)
	refused(t, "Then", Then(Get(size), twice), m, m.Cap(0), is(uint64(0)))
	p, _ := Then(Get(1), func(w uint64) Prog[bool] { return Try(-1, 0, w) }).Step(m, m.Cap(0))
	waits(t, "behind the first one", p, is(false), swap(-1, 0, 11))
	refused(t, "behind the first one", p, m, m.Cap(0), is(false))
}

// TestThenGivesOwnList: what is handed on is a list of its own each time.
func TestThenGivesOwnList(t *testing.T) {
	p := Done([]uint64{1, 2})
	for range 3 {
		q := Then(p, func(l []uint64) Prog[uint64] {
			l[0]++
			return Done(l[0])
		})
		isOver(t, "Then", q, is(uint64(2)))
	}
}

// TestListLeavesArgument: what is handed in is left, its spare room too, and isn't kept.
func TestListLeavesArgument(t *testing.T) {
	all := every()
	l := all[:4:len(all)]
	p := List(l)
	m := filled(t)
	if _, n, over := Run(p, m, m.Cap(0), 9); n != 4 || !over || !slices.Equal(all, every()) {
		t.Error(n, over, all)
	}
	for i := range all {
		all[i] = store(5, 99)
	}
	whole(t, "List of what was changed since", p, every()[:4], isList(), func(r, told []uint64) bool { return slices.Equal(r, told) })
	q, _ := List(every()[:3]).Step(filled(t), mem.Cap{Region: 0, Epoch: 1})
	waits(t, "behind a step", q, isList(), every()[1])
}

func TestDoneLeavesArgument(t *testing.T) {
	all := []uint64{1, 2, 3, 4}
	p := Done(all[:2:4])
	q := Join(p, list(load(1)))
	r, _ := p.Over()
	_ = append(r, 9, 9)
	if !slices.Equal(all, []uint64{1, 2, 3, 4}) {
		t.Error(all)
	}
	runs(t, "Join", q, 1, isList(), isList(1, 2, 11))
	runs(t, "Join", Join(p, p), 0, isList(), isList(1, 2, 1, 2))
	if !slices.Equal(all, []uint64{1, 2, 3, 4}) {
		t.Error(all)
	}
	for i := range all {
		all[i] = 7
	}
	isOver(t, "Done of what was changed since", p, isList(1, 2))
	runs(t, "Join of what was changed since", q, 1, isList(), isList(1, 2, 11))
}

// spoil writes over a list that was answered, and over its spare room.
func spoil(l []uint64) {
	l = l[:cap(l)]
	for i := range l {
		l[i] = 77
	}
}

// TestAnswersAreNew: nothing that is done with an answer is seen in another one.
func TestAnswersAreNew(t *testing.T) {
	m := filled(t)
	c := m.Cap(0)
	p, _ := list(load(1)).Step(m, c)
	q, _ := Join(list(load(1)), Done([]uint64{4})).Step(m, c)
	over := map[string]Prog[[]uint64]{
		"List": p, "Join": q, "Done": Done([]uint64{11}), "Join of both over": Join(p, Done([]uint64{4})),
		"Join of one and nothing": Join(p, List(nil)), "Join of nothing and one": Join(List(nil), p),
	}
	for name, p := range over {
		first, _ := p.Over()
		want := slices.Clone(first)
		joined := Join(p, list(load(2)))
		behind := Join(list(load(2)), p)
		spoil(first)
		isOver(t, name, p, isList(want...))
		r, _, _ := Run(p, m, c, 1)
		spoil(r)
		isOver(t, name, p, isList(want...))
		for range 2 {
			r, _, _ := Run(joined, m, c, 5)
			if !slices.Equal(r, append(slices.Clone(want), 12)) {
				t.Error(name, r)
			}
			spoil(r)
			r, _, _ = Run(behind, m, c, 5)
			if !slices.Equal(r, append([]uint64{12}, want...)) {
				t.Error(name, r)
			}
			spoil(r)
		}
		isOver(t, name, p, isList(want...))
	}
}

// TestAgainAndAgain: a program may be run again and again, from each place where it
// was; those that go on from one place don't hang on one another.
func TestAgainAndAgain(t *testing.T) {
	m := filled(t)
	c := m.Cap(0)
	at := []Prog[[]uint64]{Join(Join(list(add(0, 1), add(0, 1)), list(add(0, 1))), Join(list(add(0, 1)), list(add(0, 1), add(0, 1))))}
	for n := range 6 {
		p, ok := at[n].Step(m, c)
		if !ok {
			t.Fatal(n)
		}
		at = append(at, p)
	}
	word := uint64(16)
	for range 3 {
		for n, p := range at {
			var want []uint64
			for i := range uint64(n) {
				want = append(want, 10+i)
			}
			for range 6 - n {
				want = append(want, word)
				word++
			}
			if r, steps, over := Run(p, m, c, 10); !slices.Equal(r, want) || steps != 6-n || !over {
				t.Errorf("from %d: %v, %d, %v, not %v", n, r, steps, over, want)
			}
		}
	}
}

// TestTurnAbout: two that go on from one place, a step each in turn.
func TestTurnAbout(t *testing.T) {
	m := filled(t)
	c := m.Cap(0)
	p, _ := Join(list(add(0, 1), add(0, 1)), list(add(0, 1), add(0, 1))).Step(m, c)
	q := p
	for range 3 {
		p, _ = p.Step(m, c)
		q, _ = q.Step(m, c)
	}
	isOver(t, "the one", p, isList(10, 11, 13, 15))
	isOver(t, "the other", q, isList(10, 12, 14, 16))
}

// TestTwoMemories: a program doesn't hang on the memory where its steps were done.
func TestTwoMemories(t *testing.T) {
	a, b := filled(t), filled(t)
	p := list(add(0, 1), add(0, 1))
	q, _ := p.Step(a, a.Cap(0))
	was := seen(b)
	r, _, _ := Run(q, a, a.Cap(0), 5)
	if !slices.Equal(r, []uint64{10, 11}) || !same(was, seen(b)) {
		t.Error(r)
	}
	if r, n, over := Run(q, b, b.Cap(0), 5); !slices.Equal(r, []uint64{10, 10}) || n != 1 || !over {
		t.Error(r, n, over)
	}
	if r, n, over := Run(p, b, b.Cap(0), 5); !slices.Equal(r, []uint64{11, 12}) || n != 2 || !over {
		t.Error(r, n, over)
	}
}

// TestDeepJoins: joins in joins, on the one side and on the other, are gone through
// in a loop.
func TestDeepJoins(t *testing.T) {
	const n = 200000
	m := filled(t)
	one := list(add(0, 1))
	left, right := one, one
	for range n - 1 {
		left, right = Join(left, one), Join(one, right)
	}
	for _, p := range []Prog[[]uint64]{left, right} {
		first := m.Peek(0, 0)
		if _, steps, over := Run(p, m, m.Cap(0), n-1); steps != n-1 || over {
			t.Fatal(steps, over)
		}
		m.Do(m.Cap(0), store(0, first))
		r, steps, over := Run(p, m, m.Cap(0), n+1)
		if len(r) != n || steps != n || !over {
			t.Fatal(len(r), steps, over)
		}
		for i, w := range r {
			if w != first+uint64(i) {
				t.Fatal(i, w)
			}
		}
	}
}

func TestLongList(t *testing.T) {
	const n = 300000
	m := filled(t)
	r, steps, over := Run(List(slices.Repeat([]mem.Access{add(0, 1)}, n)), m, m.Cap(0), math.MaxInt)
	if len(r) != n || steps != n || !over || r[0] != 10 || r[n-1] != 10+n-1 {
		t.Error(len(r), steps, over)
	}
}

// rows are numbers that look as if they were picked at random, the same each time.
type rows struct{ at uint64 }

func (r *rows) below(n int) int {
	r.at = r.at*6364136223846793005 + 1442695040888963407
	return int(r.at>>33) % n
}

func (r *rows) access() mem.Access {
	return mem.Access{Op: r.below(4), At: r.below(size), A: uint64(r.below(3)), B: uint64(r.below(3))}
}

// item is a part of what a model of a program comes to: an access, or, if it is
// done, a word that is there at once.
type item struct {
	done bool
	word uint64
	a    mem.Access
}

// some is a program made at random, and the model of it.
func (r *rows) some(deep int) (Prog[[]uint64], []item) {
	kind := r.below(4)
	if deep == 0 {
		kind = 2 * r.below(2)
	}
	switch kind {
	case 0:
		var l []mem.Access
		var items []item
		for range r.below(4) {
			a := r.access()
			l, items = append(l, a), append(items, item{a: a})
		}
		return List(l), items
	case 2:
		var l []uint64
		var items []item
		for range r.below(3) {
			w := uint64(r.below(1000))
			l, items = append(l, w), append(items, item{done: true, word: w})
		}
		return Done(l), items
	}
	p, a := r.some(deep - 1)
	q, b := r.some(deep - 1)
	return Join(p, q), append(a, b...)
}

// stepModel is the model behind a step in the memory, and whether there was one.
func stepModel(items []item, m *mem.Memory, c mem.Cap) ([]item, bool) {
	i := slices.IndexFunc(items, func(x item) bool { return !x.done })
	if i < 0 {
		return items, false
	}
	w, ok := m.Do(c, items[i].a)
	if !ok {
		return items, false
	}
	items = slices.Clone(items)
	items[i] = item{done: true, word: w}
	return items, true
}

// overModel is what the model comes to, and whether it is over.
func overModel(items []item) ([]uint64, bool) {
	var l []uint64
	for _, x := range items {
		if !x.done {
			return nil, false
		}
		l = append(l, x.word)
	}
	return l, true
}

// TestBesideModel: a fixed long row of programs, each stepped, joined and begun anew
// from where it was, beside a model in a memory of its own.
func TestBesideModel(t *testing.T) {
	r := &rows{at: 7}
	m, beside := filled(t), filled(t)
	caps := append(wrongCaps(), slices.Repeat([]mem.Cap{m.Cap(0), m.Cap(1)}, 20)...)
	var progs []Prog[[]uint64]
	var models [][]item
	for round := range 30000 {
		if len(progs) == 0 || r.below(5) == 0 {
			p, items := r.some(4)
			progs, models = append(progs, p), append(models, items)
		}
		i, j := r.below(len(progs)), r.below(len(progs))
		if len(models[i])+len(models[j]) < 60 && r.below(4) == 0 {
			progs = append(progs, Join(progs[i], progs[j]))
			models = append(models, slices.Concat(models[i], models[j]))
			i = len(progs) - 1
		}
		c := caps[r.below(len(caps))]
		p, ok := progs[i].Step(m, c)
		items, right := stepModel(models[i], beside, c)
		l, over := p.Over()
		want, wantOver := overModel(items)
		if ok != right || over != wantOver || !slices.Equal(l, want) || !same(seen(m), seen(beside)) {
			t.Fatal(round, ok, right, over, wantOver, l, want)
		}
		// Half of them are left where they were, to be stepped from there once more.
		if r.below(2) == 0 {
			progs[i], models[i] = p, items
		} else {
			progs, models = append(progs, p), append(models, items)
		}
		if len(progs) > 40 {
			k := r.below(len(progs))
			progs, models = slices.Delete(progs, k, k+1), slices.Delete(models, k, k+1)
		}
	}
}

// TestRunsBesideModel: Run to a most beside the model's steps.
func TestRunsBesideModel(t *testing.T) {
	r := &rows{at: 11}
	m, beside := filled(t), filled(t)
	for round := range 5000 {
		p, items := r.some(4)
		most := r.below(12) - 1
		n, ok := 0, true
		for n < most && ok {
			items, ok = stepModel(items, beside, beside.Cap(1))
			if ok {
				n++
			}
		}
		want, wantOver := overModel(items)
		l, steps, over := Run(p, m, m.Cap(1), most)
		if !slices.Equal(l, want) || steps != n || over != wantOver || !same(seen(m), seen(beside)) {
			t.Fatal(round, l, want, steps, n, over, wantOver)
		}
	}
}
