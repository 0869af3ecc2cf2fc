package retire

import (
	"math"
	"slices"
	"testing"

	"cubicle/api"
	"cubicle/free"
	"cubicle/hazard"
	"cubicle/mem"
	"cubicle/plan"
	"cubicle/prog"
	"cubicle/state"
)

const ones = math.MaxUint64

// mine is the region that a test's programs work in; the memory has another one of
// the same plan, ahead of it, which none of them may touch.
const mine = 1

// of is the least plan of so many threads, with more nodes than they may retire. Of
// one thread: hazards from 1 on, a count at 4, retired from 5 on, nodes from 9 on. Of
// two threads: hazards from 1 on, a count at 7, retired from 8 on, a count at 15,
// retired from 16 on, nodes from 23 on.
func of(threads int) plan.Plan {
	return plan.Plan{Nodes: 4*threads + 8, Threads: threads, Retire: 3*threads + 1, Buckets: 1, Gen: 9}
}

// several are plans of several numbers of threads and nodes, with other things ahead
// of them.
func several() []plan.Plan {
	return []plan.Plan{
		of(1), of(2), of(3), of(16),
		{Nodes: 1, Threads: 1, Retire: 4, Domains: 2, Buckets: 1, Gen: 1},
		{Nodes: 2, Threads: 5, Retire: 16, Domains: 3, Buckets: 5, Gen: 2},
		{Nodes: 60, Threads: 2, Retire: 1024, Domains: 64, Buckets: 7, Gen: api.MaxGen},
		{Nodes: 70, Threads: 16, Retire: 49, Domains: 1, Buckets: 2, Gen: 3},
	}
}

// world is a memory, with another word, not 0, at each place of both regions, but of
// the own one's hazards and counts, which are 0: so no node is held, or retired. The
// head names no node, and has the tag 2^19.
type world struct {
	t *testing.T
	p plan.Plan
	m *mem.Memory
	c mem.Cap
}

func newWorld(t *testing.T, p plan.Plan) *world {
	t.Helper()
	m, e := mem.New([]int{p.Size(), p.Size()})
	if e != api.OK {
		t.Fatal(p, e)
	}
	w := &world{t, p, m, m.Cap(mine)}
	for at := range p.Size() {
		w.put(at, 1<<40+uint64(at))
		m.Do(m.Cap(0), mem.Access{Op: mem.Store, At: at, A: 1<<41 + uint64(at)})
	}
	w.putHazards()
	for thread := range p.Threads {
		w.put(p.Count(thread), 0)
	}
	return w
}

// put stores the word at that place.
func (w *world) put(at int, word uint64) {
	w.t.Helper()
	if _, ok := w.m.Do(w.c, mem.Access{Op: mem.Store, At: at, A: word}); !ok {
		w.t.Fatalf("there is no place %d", at)
	}
}

// putHazards lets the first hazards, where all threads' are counted in a row, have
// these words, and the others 0.
func (w *world) putHazards(words ...uint64) {
	w.t.Helper()
	for i := range hazards(w.p) {
		w.put(w.p.Hazard(i/3, i%3), 0)
	}
	for i, word := range words {
		w.put(w.p.Hazard(i/3, i%3), word)
	}
}

// putRetired lets the thread have these retired words, so many as there are.
func (w *world) putRetired(thread int, words ...uint64) {
	w.t.Helper()
	w.put(w.p.Count(thread), uint64(len(words)))
	for i, word := range words {
		w.put(w.p.Retired(thread, i), word)
	}
}

// putState lets the node have that state.
func (w *world) putState(n, gen, mode, kind int) {
	w.t.Helper()
	w.put(w.p.State(n), stateWord(gen, mode, kind))
}

// stateWord is the word of a state, by the places of its bits.
func stateWord(gen, mode, kind int) uint64 {
	return uint64(gen) | uint64(mode)<<30 | uint64(kind)<<32
}

// names are the words that name the nodes.
func names(nodes ...int) []uint64 {
	var l []uint64
	for _, n := range nodes {
		l = append(l, uint64(n+1))
	}
	return l
}

// hazards is how many hazards the plan has.
func hazards(p plan.Plan) int { return 3 * p.Threads }

// words are all words of both regions.
func (w *world) words() []uint64 {
	var l []uint64
	for r := range w.m.Regions() {
		for at := range w.m.Size(r) {
			l = append(l, w.m.Peek(r, at))
		}
	}
	return l
}

// wordsAre asks whether the words are as they were, but for what these accesses of
// the own region did.
func (w *world) wordsAre(was []uint64, done ...mem.Access) {
	w.t.Helper()
	want := slices.Clone(was)
	for _, a := range done {
		word := &want[w.m.Size(0)+a.At]
		switch {
		case a.Op == mem.Store:
			*word = a.A
		case a.Op == mem.Swap && *word == a.A:
			*word = a.B
		}
	}
	if got := w.words(); !slices.Equal(got, want) {
		w.t.Errorf("%+v: the words are %v; want %v", w.p, got, want)
	}
}

// listIs asks whether List tells these nodes of the thread, without an access.
func (w *world) listIs(thread int, want ...int) {
	w.t.Helper()
	words, count := w.words(), w.m.Count()
	if got := List(w.p, w.m, mine, thread); !slices.Equal(got, want) {
		w.t.Errorf("%+v: List of the thread %d is %v; want %v", w.p, thread, got, want)
	}
	if w.m.Count() != count || !slices.Equal(w.words(), words) {
		w.t.Error("List did an access")
	}
}

// freeIs asks whether these nodes are in the free list, in order.
func (w *world) freeIs(want ...int) {
	w.t.Helper()
	if got := free.List(w.p, w.m, mine); !slices.Equal(got, want) {
		w.t.Errorf("%+v: the free list is %v; want %v", w.p, got, want)
	}
}

// stateIs asks whether the node's state is that.
func (w *world) stateIs(n, gen, mode, kind int) {
	w.t.Helper()
	if got, want := w.m.Peek(mine, w.p.State(n)), stateWord(gen, mode, kind); got != want {
		w.t.Errorf("%+v: the node %d's state is %#x; want %#x", w.p, n, got, want)
	}
}

func load(at int) mem.Access            { return mem.Access{Op: mem.Load, At: at} }
func store(at int, w uint64) mem.Access { return mem.Access{Op: mem.Store, At: at, A: w} }
func trySwap(at int, was, w uint64) mem.Access {
	return mem.Access{Op: mem.Swap, At: at, A: was, B: w}
}

// loads are loads of the places from the one to the other.
func loads(first, last int) []mem.Access {
	var l []mem.Access
	for at := first; at <= last; at++ {
		l = append(l, load(at))
	}
	return l
}

// row is all these accesses, one list behind the other.
func row(l ...[]mem.Access) []mem.Access { return slices.Concat(l...) }

// accesses asks whether the program's next accesses are these, does them, and is the
// program that goes on.
func accesses[R any](w *world, q prog.Prog[R], want ...mem.Access) prog.Prog[R] {
	w.t.Helper()
	for i, a := range want {
		if got, ok := q.Access(); got != a || !ok {
			w.t.Fatalf("%+v: the access %d is %+v, %v; want %+v", w.p, i, got, ok, a)
		}
		if r, over := q.Over(); over {
			w.t.Fatalf("%+v: over, with %v, ahead of the access %d", w.p, r, i)
		}
		count := w.m.Count()
		next, ok := q.Step(w.m, w.c)
		if !ok || w.m.Count() != count+1 {
			w.t.Fatalf("%+v: the step %d: %v, %d accesses", w.p, i, ok, w.m.Count()-count)
		}
		q = next
	}
	return q
}

// comesTo asks whether the program is over, with that.
func comesTo(w *world, q prog.Prog[int], want int) {
	w.t.Helper()
	if r, over := q.Over(); r != want || !over {
		w.t.Errorf("%+v: it comes to %v, over %v; want %v", w.p, r, over, want)
	}
	if a, ok := q.Access(); ok {
		w.t.Errorf("%+v: it is over, and has the access %+v", w.p, a)
	}
}

// chapter does what the chapter's words say, an access behind the other: do is what
// an access tells.
type chapter struct {
	p  plan.Plan
	do func(mem.Access) uint64
}

func (x chapter) load(at int) uint64     { return x.do(load(at)) }
func (x chapter) store(at int, w uint64) { x.do(store(at, w)) }

func (x chapter) put(thread, n int) int {
	count := x.load(x.p.Count(thread))
	if count >= uint64(x.p.Retire) {
		return api.None
	}
	x.store(x.p.Retired(thread, int(count)), uint64(n)+1)
	x.store(x.p.Count(thread), count+1)
	return int(count + 1)
}

func (x chapter) push(n int) int {
	for {
		head := x.load(x.p.Head())
		x.store(x.p.Next(n), head&(1<<21-1))
		if x.do(trySwap(x.p.Head(), head, (head>>21+1)<<21|uint64(n+1))) == head {
			return n
		}
	}
}

func (x chapter) reclaim(n int) int {
	for f := range 3 {
		x.store(x.p.Field(n, f), 0)
	}
	word := x.load(x.p.State(n))
	gen := word & (1<<30 - 1)
	if word>>34 != 0 || word>>32 == 3 {
		gen = 0
	}
	if gen >= uint64(x.p.Gen) {
		x.store(x.p.State(n), gen|3<<30)
		return api.None
	}
	x.store(x.p.State(n), gen+1)
	return x.push(n)
}

func (x chapter) held(word uint64) bool {
	for i := range hazards(x.p) {
		if x.load(x.p.Hazard(i/3, i%3)) == word {
			return true
		}
	}
	return false
}

func (x chapter) scan(thread int) int {
	many := int(min(x.load(x.p.Count(thread)), uint64(x.p.Retire)))
	left := many
	for i := many - 1; i >= 0; i-- {
		word := x.load(x.p.Retired(thread, i))
		if word == 0 || word > uint64(x.p.Nodes) || x.held(word) {
			continue
		}
		left--
		if i != left {
			x.store(x.p.Retired(thread, i), x.load(x.p.Retired(thread, left)))
		}
		x.store(x.p.Count(thread), uint64(left))
		x.reclaim(int(word - 1))
	}
	return many - left
}

// these are what the chapter's calls do.
func puts(thread, n int) func(chapter) int { return func(x chapter) int { return x.put(thread, n) } }
func reclaims(n int) func(chapter) int     { return func(x chapter) int { return x.reclaim(n) } }
func scans(thread int) func(chapter) int   { return func(x chapter) int { return x.scan(thread) } }

// did is an access that a program did, and what it was told.
type did struct {
	a    mem.Access
	told uint64
}

// steps runs the program to its end, and tells what it did, and the program that is
// over then.
func (w *world) steps(q prog.Prog[int]) ([]did, prog.Prog[int]) {
	w.t.Helper()
	var l []did
	for {
		a, ok := q.Access()
		if !ok {
			return l, q
		}
		told := w.m.Peek(mine, a.At)
		next, ok := q.Step(w.m, w.c)
		if !ok {
			w.t.Fatalf("%+v: the step %d, %+v, is refused", w.p, len(l), a)
		}
		l, q = append(l, did{a, told}), next
	}
}

// follows asks whether the chapter, told the same, does the same, and is what it comes
// to.
func (w *world) follows(l []did, words func(chapter) int) int {
	w.t.Helper()
	i := 0
	r := words(chapter{w.p, func(a mem.Access) uint64 {
		if i == len(l) || l[i].a != a {
			w.t.Fatalf("%+v: the access %d must be %+v; it did %+v", w.p, i, a, l)
		}
		i++
		return l[i-1].told
	}})
	if i != len(l) {
		w.t.Fatalf("%+v: it must do %d accesses; it did %+v", w.p, i, l)
	}
	return r
}

// does asks whether the program, alone, does what the chapter's words do, and changes
// no other word; it is what it comes to.
func (w *world) does(q prog.Prog[int], words func(chapter) int) int {
	w.t.Helper()
	was := w.words()
	l, q := w.steps(q)
	r := w.follows(l, words)
	comesTo(w, q, r)
	var done []mem.Access
	for _, d := range l {
		done = append(done, d.a)
	}
	w.wordsAre(was, done...)
	return r
}

// is asks whether the two numbers are the same.
func (w *world) is(got, want int) {
	w.t.Helper()
	if got != want {
		w.t.Errorf("%+v: %d; want %d", w.p, got, want)
	}
}

// drawn is a fixed row of numbers that look as if they were drawn.
type drawn uint64

func (d *drawn) below(n int) int {
	*d = *d*6364136223846793005 + 1442695040888963407
	return int(uint64(*d) >> 33 % uint64(n))
}

func (d *drawn) word() uint64 {
	return uint64(d.below(1<<31))<<33 ^ uint64(d.below(1<<31))<<10 ^ uint64(d.below(1<<31))
}

// order is the first so many numbers from 0 on, in an order that is drawn.
func (d *drawn) order(many int) []int {
	l := make([]int, many)
	for i := range l {
		l[i] = i
		k := d.below(i + 1)
		l[i], l[k] = l[k], l[i]
	}
	return l
}

// TestExample: the chapter's.
func TestExample(t *testing.T) {
	w := newWorld(t, of(1))
	for i, n := range []int{2, 0} {
		r, k, over := prog.Run(Put(w.p, 0, n), w.m, w.c, 99)
		if r != i+1 || k != 3 || !over {
			t.Errorf("Put of %d: %d, %d steps, over %v", n, r, k, over)
		}
	}
	prog.Run(hazard.Set(w.p, 0, 0, 2), w.m, w.c, 99)
	if r, _, over := prog.Run(Scan(w.p, 0), w.m, w.c, 99); r != 1 || !over {
		t.Errorf("Scan: %d, over %v", r, over)
	}
	w.freeIs(0)
	w.listIs(0, 2)
}

// P11.1: Put.

// TestPutByHand is a plan of two threads, whose accesses are told by numbers.
func TestPutByHand(t *testing.T) {
	w := newWorld(t, of(2))
	was := w.words()
	comesTo(w, accesses(w, Put(w.p, 0, 4), load(7), store(8, 5), store(7, 1)), 1)
	comesTo(w, accesses(w, Put(w.p, 1, 15), load(15), store(16, 16), store(15, 1)), 1)
	comesTo(w, accesses(w, Put(w.p, 0, 0), load(7), store(9, 1), store(7, 2)), 2)
	comesTo(w, accesses(w, Put(w.p, 0, 4), load(7), store(10, 5), store(7, 3)), 3)
	comesTo(w, accesses(w, Put(w.p, 1, 2), load(15), store(17, 3), store(15, 2)), 2)
	w.wordsAre(was, store(7, 3), store(8, 5), store(9, 1), store(10, 5), store(15, 2), store(16, 16), store(17, 3))
	w.listIs(0, 4, 0, 4)
	w.listIs(1, 15, 2)
}

// TestPut: of several nodes by several threads, in turn, till none has room, and once
// more.
func TestPut(t *testing.T) {
	for _, p := range several() {
		w, d := newWorld(t, p), drawn(11)
		lists := make([][]int, p.Threads)
		for i := range p.Threads * (min(p.Retire, 100) + 1) {
			thread, n := i%p.Threads, []int{0, p.Nodes - 1, d.below(p.Nodes)}[d.below(3)]
			want := api.None
			if len(lists[thread]) < p.Retire {
				lists[thread] = append(lists[thread], n)
				want = len(lists[thread])
			}
			w.is(w.does(Put(p, thread, n), puts(thread, n)), want)
			if i%7 == 0 || want == api.None {
				w.listsAre(lists)
			}
		}
		w.listsAre(lists)
	}
}

// listsAre asks for the List of each thread.
func (w *world) listsAre(lists [][]int) {
	w.t.Helper()
	for thread, l := range lists {
		w.listIs(thread, l...)
	}
}

// TestPutOfTheGreatestPlan: the greatest node, by the last thread, as far as there is
// room.
func TestPutOfTheGreatestPlan(t *testing.T) {
	p := plan.Plan{Nodes: api.MaxNodes, Threads: api.MaxThreads, Retire: api.MaxRetire, Buckets: 1, Gen: api.MaxGen}
	m, e := mem.New([]int{p.Size()})
	if e != api.OK {
		t.Fatal(e)
	}
	c, count := m.Cap(0), p.Count(15)
	m.Do(c, store(count, 1022))
	for i, want := range []int{1023, 1024, api.None, api.None} {
		n := 1048575 - i
		r, k, over := prog.Run(Put(p, 15, n), m, c, 99)
		if r != want || k != []int{3, 3, 1, 1}[i] || !over {
			t.Errorf("%d: %d steps, over %v; want %d", r, k, over, want)
		}
	}
	if a, b := m.Peek(0, p.Retired(15, 1022)), m.Peek(0, p.Retired(15, 1023)); a != 1048576 || b != 1048575 || m.Peek(0, count) != 1024 {
		t.Error(a, b, m.Peek(0, count))
	}
	if l := List(p, m, 0, 15); !slices.Equal(l, []int{1048575, 1048574}) {
		t.Error(l)
	}
}

// TestPutIsThreeSteps: it is over behind these, and not ahead of them.
func TestPutIsThreeSteps(t *testing.T) {
	for most := -1; most < 6; most++ {
		w := newWorld(t, of(3))
		r, k, over := prog.Run(Put(w.p, 2, 1), w.m, w.c, most)
		if want := min(3, max(0, most)); k != want || over != (want == 3) || r != want/3 {
			t.Errorf("%d steps at most: %d, %d steps, over %v", most, r, k, over)
		}
	}
}

// TestPutOfTheLast: where the count is one less than Retire.
func TestPutOfTheLast(t *testing.T) {
	for _, p := range several() {
		for thread := range p.Threads {
			w := newWorld(t, p)
			count := p.Count(thread)
			w.put(count, uint64(p.Retire-1))
			a, b := store(count+p.Retire, uint64(p.Nodes)), store(count, uint64(p.Retire))
			was := w.words()
			comesTo(w, accesses(w, Put(p, thread, p.Nodes-1), load(count), a, b), p.Retire)
			w.wordsAre(was, a, b)
			comesTo(w, accesses(w, Put(p, thread, p.Nodes-1), load(count)), api.None)
			w.wordsAre(was, a, b)
		}
	}
}

// full are words of a count for which there is no room.
func full(p plan.Plan) []uint64 {
	r := uint64(p.Retire)
	return []uint64{r, r + 1, 2 * r, 1 << 20, 1<<31 - 1, 1 << 31, 1<<32 - 1, 1 << 32, 1<<32 + 1, 1<<32 + r - 1,
		1<<63 - 1, 1 << 63, 1<<63 + 1, 1<<63 + r, ones - r, ones - 1, ones}
}

// TestPutWithoutRoom: it is over with None, behind its one load; no word is changed.
func TestPutWithoutRoom(t *testing.T) {
	for _, p := range several() {
		w := newWorld(t, p)
		for _, thread := range []int{0, p.Threads - 1} {
			for _, word := range full(p) {
				w.put(p.Count(thread), word)
				was := w.words()
				comesTo(w, accesses(w, Put(p, thread, 0), load(p.Count(thread))), api.None)
				w.wordsAre(was)
			}
		}
	}
}

// P11.1: Reclaim.

// TestReclaimByHand is a plan of one thread, whose accesses are told by numbers.
func TestReclaimByHand(t *testing.T) {
	w := newWorld(t, of(1))
	w.put(0, 0)
	w.put(19, 4|2<<30|1<<32)
	was := w.words()
	l := []mem.Access{store(21, 0), store(22, 0), store(23, 0), load(19), store(19, 5),
		load(0), store(20, 0), trySwap(0, 0, 3|1<<21)}
	comesTo(w, accesses(w, Reclaim(w.p, 2), l...), 2)
	w.wordsAre(was, l...)
	w.freeIs(2)
	k := []mem.Access{store(11, 0), store(12, 0), store(13, 0), load(9), store(9, 1),
		load(0), store(10, 3), trySwap(0, 3|1<<21, 1|2<<21)}
	comesTo(w, accesses(w, Reclaim(w.p, 0), k...), 0)
	w.wordsAre(was, row(l, k)...)
	w.freeIs(0, 2)
	w.put(64, 8|2<<30|2<<32)
	comesTo(w, accesses(w, Reclaim(w.p, 11), store(66, 0), store(67, 0), store(68, 0), load(64), store(64, 9),
		load(0), store(65, 1), trySwap(0, 1|2<<21, 12|3<<21)), 11)
	w.freeIs(11, 0, 2)
}

// TestReclaim: of each node, in an order that is drawn, with fields that aren't 0.
func TestReclaim(t *testing.T) {
	for _, p := range several() {
		w, d := newWorld(t, p), drawn(11)
		var list []int
		for _, n := range d.order(p.Nodes) {
			gen, kind := d.below(p.Gen), d.below(3)
			w.putState(n, gen, state.Retired, kind)
			w.is(w.does(Reclaim(p, n), reclaims(n)), n)
			w.stateIs(n, gen+1, state.Free, state.Plain)
			for f := range 3 {
				w.is(int(w.m.Peek(mine, p.Field(n, f))), 0)
			}
			list = append([]int{n}, list...)
			w.freeIs(list...)
		}
	}
}

// TestReclaimOfEachState: what it becomes hangs on the Gen alone.
func TestReclaimOfEachState(t *testing.T) {
	for _, p := range several() {
		w := newWorld(t, p)
		n := p.Nodes - 1
		for mode := range 4 {
			for kind := range 3 {
				for _, gen := range []int{0, 1, p.Gen / 2, p.Gen - 1, p.Gen, p.Gen + 1, 2 * p.Gen, 1<<29 - 1, 1 << 29, api.MaxGen} {
					if gen > api.MaxGen {
						continue
					}
					w.put(p.Head(), 7<<21)
					w.putState(n, gen, mode, kind)
					r := w.does(Reclaim(p, n), reclaims(n))
					if gen < p.Gen {
						w.is(r, n)
						w.stateIs(n, gen+1, state.Free, state.Plain)
						w.freeIs(n)
					} else {
						w.is(r, api.None)
						w.stateIs(n, gen, state.Gone, state.Plain)
						w.freeIs()
					}
				}
			}
		}
	}
}

// TestReclaimForTheLastTime: a node of the plan's Gen is gone, and isn't pushed; of
// one less it is free once more.
func TestReclaimForTheLastTime(t *testing.T) {
	w := newWorld(t, of(1))
	w.put(0, 5<<21)
	w.put(9, 8|2<<30)
	wipe := []mem.Access{store(11, 0), store(12, 0), store(13, 0), load(9)}
	comesTo(w, accesses(w, Reclaim(w.p, 0), row(wipe, []mem.Access{store(9, 9), load(0), store(10, 0), trySwap(0, 5<<21, 1|6<<21)})...), 0)
	w.freeIs(0)
	prog.Run(free.Pop(w.p), w.m, w.c, 99)
	w.put(9, 9|2<<30|1<<32)
	was := w.words()
	l := row(wipe, []mem.Access{store(9, 9|3<<30)})
	comesTo(w, accesses(w, Reclaim(w.p, 0), l...), api.None)
	w.wordsAre(was, l...)
	w.freeIs()
	comesTo(w, accesses(w, Reclaim(w.p, 0), l...), api.None)
	w.wordsAre(was, l...)
}

// noStates are words that are no state's.
func noStates() []uint64 {
	return []uint64{3 << 32, 3<<32 | 9, 3<<32 | 2<<30 | 8, 3<<32 | 3<<30 | api.MaxGen, 1 << 34, 1<<34 | 9, 1<<34 | 1<<32, 1 << 35,
		1 << 40, 1 << 62, 1 << 63, 1<<63 | 9, 1<<63 | 2<<30 | 5, ones, ones - 1, ones - 1<<34 + 1}
}

// TestReclaimOfNoState: a word that is none's counts as a zero state's.
func TestReclaimOfNoState(t *testing.T) {
	for _, p := range several() {
		w := newWorld(t, p)
		for _, word := range noStates() {
			w.put(p.Head(), 7<<21)
			w.put(p.State(0), word)
			w.is(w.does(Reclaim(p, 0), reclaims(0)), 0)
			w.stateIs(0, 1, state.Free, state.Plain)
			w.freeIs(0)
		}
	}
}

// TestReclaimBeginsItsPushAnew: where the head is another one at its swap; the node is
// reclaimed once.
func TestReclaimBeginsItsPushAnew(t *testing.T) {
	w := newWorld(t, of(1))
	w.put(0, 5<<21)
	w.put(9, 3|2<<30)
	q := accesses(w, Reclaim(w.p, 0), store(11, 0), store(12, 0), store(13, 0), load(9), store(9, 4), load(0), store(10, 0))
	for tag := uint64(6); tag < 9; tag++ {
		w.put(0, 4|tag<<21)
		q = accesses(w, q, trySwap(0, (tag-1)<<21|4*min(1, tag-6), 1|tag<<21), load(0), store(10, 4))
	}
	comesTo(w, accesses(w, q, trySwap(0, 4|8<<21, 1|9<<21)), 0)
}

// P11.2.

// reclaimByHand is what Reclaim of a node, of a plan whose nodes begin there, does,
// that has the state Gen 0, RETIRED, where the head is that.
func reclaimByHand(nodes, n int, head uint64) []mem.Access {
	s := nodes + 5*n
	return []mem.Access{store(s+2, 0), store(s+3, 0), store(s+4, 0), load(s), store(s, 1),
		load(0), store(s+1, head&(1<<21-1)), trySwap(0, head, uint64(n+1)|(head>>21+1)<<21)}
}

// handWorld is a world of two threads, whose head names no node, by the tag 0, and
// whose nodes are all RETIRED; the thread 0 retired the nodes 3, 5 and 7, the thread 1
// the nodes 2 and 4.
func handWorld(t *testing.T) *world {
	w := newWorld(t, of(2))
	w.put(0, 0)
	for n := range w.p.Nodes {
		w.putState(n, 0, state.Retired, state.Plain)
	}
	w.putRetired(0, 4, 6, 8)
	w.putRetired(1, 3, 5)
	return w
}

// scanIs asks whether the thread 0's Scan does that, comes to how many, and leaves
// these retired, and these free, in order.
func (w *world) scanIs(want []mem.Access, many int, left, list []int) {
	w.t.Helper()
	was := w.words()
	comesTo(w, accesses(w, Scan(w.p, 0), want...), many)
	w.wordsAre(was, want...)
	w.listIs(0, left...)
	w.listIs(1, 2, 4)
	w.freeIs(list...)
}

// TestScanByHand is a plan of two threads, whose accesses are told by numbers: by
// hazards that hold none of the nodes, the first one, one between, the last one, and
// all of them.
func TestScanByHand(t *testing.T) {
	asked := loads(1, 6)
	one := func(a ...mem.Access) []mem.Access { return a }
	w := handWorld(t)
	w.scanIs(row(one(load(7)),
		one(load(10)), asked, one(store(7, 2)), reclaimByHand(23, 7, 0),
		one(load(9)), asked, one(store(7, 1)), reclaimByHand(23, 5, 8|1<<21),
		one(load(8)), asked, one(store(7, 0)), reclaimByHand(23, 3, 6|2<<21),
	), 3, nil, []int{3, 5, 7})
	w.scanIs(one(load(7)), 0, nil, []int{3, 5, 7})

	w = handWorld(t)
	w.putHazards(0, 0, 0, 0, 4)
	w.scanIs(row(one(load(7)),
		one(load(10)), asked, one(store(7, 2)), reclaimByHand(23, 7, 0),
		one(load(9)), asked, one(store(7, 1)), reclaimByHand(23, 5, 8|1<<21),
		one(load(8)), asked[:5],
	), 2, []int{3}, []int{5, 7})

	w = handWorld(t)
	w.putHazards(9, 6)
	w.scanIs(row(one(load(7)),
		one(load(10)), asked, one(store(7, 2)), reclaimByHand(23, 7, 0),
		one(load(9)), asked[:2],
		one(load(8)), asked, one(load(9), store(8, 6), store(7, 1)), reclaimByHand(23, 3, 8|1<<21),
	), 2, []int{5}, []int{3, 7})

	w = handWorld(t)
	w.putHazards(8, 3, 5, 1, 2)
	w.scanIs(row(one(load(7)),
		one(load(10)), asked[:1],
		one(load(9)), asked, one(load(10), store(9, 8), store(7, 2)), reclaimByHand(23, 5, 0),
		one(load(8)), asked, one(load(9), store(8, 8), store(7, 1)), reclaimByHand(23, 3, 6|1<<21),
	), 2, []int{7}, []int{3, 5})

	w = handWorld(t)
	w.putHazards(6, 0, 8, 0, 0, 4)
	all := row(one(load(7), load(10)), asked[:3], one(load(9)), asked[:1], one(load(8)), asked)
	w.scanIs(all, 0, []int{3, 5, 7}, nil)
	w.scanIs(all, 0, []int{3, 5, 7}, nil)
}

// TestScanFillsWithTheLast: the nodes that are left, in order, where two of five are
// reclaimed, and three.
func TestScanFillsWithTheLast(t *testing.T) {
	for _, x := range []struct{ held, left, list []int }{
		{[]int{11, 13, 15}, []int{11, 15, 13}, []int{12, 14}},
		{[]int{13, 14, 15}, []int{14, 15, 13}, []int{11, 12}},
		{[]int{12, 13, 14}, []int{14, 12, 13}, []int{11, 15}},
		{[]int{11, 12, 13}, []int{11, 12, 13}, []int{14, 15}},
		{[]int{11, 12, 15}, []int{11, 12, 15}, []int{13, 14}},
		{[]int{12, 15}, []int{15, 12}, []int{11, 13, 14}},
		{[]int{14, 15}, []int{15, 14}, []int{11, 12, 13}},
		{[]int{11, 15}, []int{11, 15}, []int{12, 13, 14}},
		{[]int{12, 14}, []int{14, 12}, []int{11, 13, 15}},
		{[]int{13}, []int{13}, []int{11, 12, 14, 15}},
	} {
		w := newWorld(t, of(2))
		w.putRetired(1, names(11, 12, 13, 14, 15)...)
		w.putHazards(names(x.held...)...)
		w.is(w.does(Scan(w.p, 1), scans(1)), len(x.list))
		w.listIs(1, x.left...)
		w.freeIs(x.list...)
	}
}

// TestScan: of no node, one and several, by each thread, where those are held whose
// bits are set, by hazards anywhere.
func TestScan(t *testing.T) {
	for _, p := range several() {
		d := drawn(p.Size())
		for many := range min(p.Nodes, p.Retire, 6) + 1 {
			for bits := range 1 << many {
				w, thread := newWorld(t, p), d.below(p.Threads)
				w.scatter(&d)
				for other := range p.Threads {
					w.putRetired(other, uint64(other%p.Nodes+1))
				}
				w.scanHolds(&d, thread, d.order(p.Nodes)[:many], bits)
			}
		}
	}
}

// scatter lets the states be of RETIRED nodes, with Gens that are drawn.
func (w *world) scatter(d *drawn) {
	w.t.Helper()
	for n := range w.p.Nodes {
		w.putState(n, d.below(w.p.Gen), state.Retired, d.below(3))
	}
}

// scanHolds lets the thread have these nodes retired, those whose bits are set be held,
// as far as there are hazards, and scans.
func (w *world) scanHolds(d *drawn, thread int, nodes []int, bits int) {
	w.t.Helper()
	w.putRetired(thread, names(nodes...)...)
	places := d.order(hazards(w.p))
	var held []int
	for i, n := range nodes {
		if bits>>i&1 == 1 && len(held) < len(places) {
			w.put(w.p.Hazard(0, 0)+places[len(held)], uint64(n+1))
			held = append(held, n)
		}
	}
	w.is(w.does(Scan(w.p, thread), scans(thread)), len(nodes)-len(held))
	for other := range w.p.Threads {
		if other != thread {
			w.listIs(other, other%w.p.Nodes)
		}
	}
	l := List(w.p, w.m, mine, thread)
	slices.Sort(l)
	slices.Sort(held)
	if !slices.Equal(l, held) {
		w.t.Errorf("%+v: of %v are left %v; held are %v", w.p, nodes, l, held)
	}
	list := slices.Concat(free.List(w.p, w.m, mine), held)
	slices.Sort(list)
	slices.Sort(nodes)
	if !slices.Equal(list, nodes) {
		w.t.Errorf("%+v: of %v are free or held %v", w.p, nodes, list)
	}
}

// TestScanOfTheMost: of as many nodes as may be retired, where the first one, the last
// one and one between are held, and the last thread's last hazard holds one of them.
func TestScanOfTheMost(t *testing.T) {
	p := plan.Plan{Nodes: 1100, Threads: 16, Retire: 1024, Buckets: 1, Gen: 1}
	w, d := newWorld(t, p), drawn(11)
	nodes := d.order(p.Nodes)[:1024]
	w.scatter(&d)
	w.putRetired(15, names(nodes...)...)
	w.put(p.Hazard(15, 2), uint64(nodes[0]+1))
	w.put(p.Hazard(15, 1), uint64(nodes[500]+1))
	w.put(p.Hazard(0, 0), uint64(nodes[1023]+1))
	w.is(w.does(Scan(p, 15), scans(15)), 1021)
	w.listIs(15, nodes[0], nodes[1023], nodes[500])
	w.is(len(free.List(p, w.m, mine)), 1021)
	w.is(w.does(Scan(p, 15), scans(15)), 0)
	w.listIs(15, nodes[0], nodes[1023], nodes[500])
	w.putHazards()
	w.is(w.does(Scan(p, 15), scans(15)), 3)
	w.listIs(15)
	w.is(len(free.List(p, w.m, mine)), 1024)
}

// TestScanCountsWhatIsGone: a node that is gone isn't pushed, but counts.
func TestScanCountsWhatIsGone(t *testing.T) {
	w := newWorld(t, of(2))
	for n, gen := range []int{9, 8, 9, 0} {
		w.putState(n, gen, state.Retired, state.Plain)
	}
	w.putRetired(0, 1, 2, 3, 4)
	w.putHazards(4)
	w.is(w.does(Scan(w.p, 0), scans(0)), 3)
	w.listIs(0, 3)
	w.freeIs(1)
	for n, x := range [][2]int{{9, state.Gone}, {9, state.Free}, {9, state.Gone}, {0, state.Retired}} {
		w.stateIs(n, x[0], x[1], state.Plain)
	}
	w.putRetired(1, 1, 3)
	w.is(w.does(Scan(w.p, 1), scans(1)), 2)
	w.listIs(1)
	w.freeIs(1)
}

// TestScanOfACountAboveRetire: Retire words count; the count is one less than that
// behind the first node that is reclaimed, and stays if none is.
func TestScanOfACountAboveRetire(t *testing.T) {
	for _, p := range []plan.Plan{of(1), of(2), of(16)} {
		nodes := make([]int, p.Retire)
		for i := range nodes {
			nodes[i] = i
		}
		for _, word := range full(p) {
			w := newWorld(t, p)
			w.putRetired(0, names(nodes...)...)
			w.put(p.Count(0), word)
			w.listIs(0, nodes...)
			w.is(w.does(Scan(p, 0), scans(0)), p.Retire)
			w.is(int(w.m.Peek(mine, p.Count(0))), 0)
			w.freeIs(nodes...)

			w = newWorld(t, p)
			w.putRetired(0, names(nodes...)...)
			w.put(p.Count(0), word)
			w.putHazards(names(nodes[1:]...)...)
			w.is(w.does(Scan(p, 0), scans(0)), 1)
			w.is(int(w.m.Peek(mine, p.Count(0))), p.Retire-1)
			w.freeIs(0)
			w.listIs(0, append([]int{p.Retire - 1}, nodes[1:p.Retire-1]...)...)

			w.putRetired(0, make([]uint64, p.Retire)...)
			w.put(p.Count(0), word)
			w.is(w.does(Scan(p, 0), scans(0)), 0)
			if got := w.m.Peek(mine, p.Count(0)); got != word {
				t.Errorf("%+v: the count was %d, and is %d", p, word, got)
			}
			w.listIs(0)
		}
	}
}

// noNames are retired words that name no node of the plan.
func noNames(p plan.Plan) []uint64 {
	n := uint64(p.Nodes)
	return []uint64{0, n + 1, n + 2, 1 << 21, 1 << 31, 1<<31 + 1, 1 << 32, 1<<32 + 1, 1<<32 + n, 1 << 63, 1<<63 + 1, 1<<63 + n, ones - 1, ones}
}

// TestScanOfWordsThatNameNone: they stay, no hazard is asked, and List leaves them out;
// those ahead of them, and behind them, are reclaimed.
func TestScanOfWordsThatNameNone(t *testing.T) {
	for _, p := range several() {
		for i, word := range noNames(p) {
			w := newWorld(t, p)
			thread := i % p.Threads
			count := p.Count(thread)
			w.putRetired(thread, word, word)
			w.putHazards(word, word, word)
			was := w.words()
			comesTo(w, accesses(w, Scan(p, thread), load(count), load(count+2), load(count+1)), 0)
			w.wordsAre(was)
			w.listIs(thread)

			w.putHazards()
			w.putRetired(thread, word, 1, word)
			w.listIs(thread, 0)
			w.is(w.does(Scan(p, thread), scans(thread)), 1)
			w.freeIs(0)
			w.listIs(thread)
			w.is(int(w.m.Peek(mine, count)), 2)
			if a, b := w.m.Peek(mine, count+1), w.m.Peek(mine, count+2); a != word || b != word {
				t.Errorf("%+v: left are the words %d, %d; want %d twice", p, a, b, word)
			}
		}
	}
}

// TestScanOfANodeTwice: each of the words is asked of its own.
func TestScanOfANodeTwice(t *testing.T) {
	w := newWorld(t, of(1))
	w.putRetired(0, 5, 6, 5)
	w.putHazards(0, 5)
	w.is(w.does(Scan(w.p, 0), scans(0)), 1)
	w.listIs(0, 4, 4)
	w.freeIs(5)
}

// TestScanWhileHazardsChange: each hazard counts as it is when it is loaded.
func TestScanWhileHazardsChange(t *testing.T) {
	asked := loads(1, 6)
	for i := range 6 {
		w := newWorld(t, of(2))
		w.putRetired(0, 5)
		q := accesses(w, Scan(w.p, 0), row([]mem.Access{load(7), load(8)}, asked[:i])...)
		w.put(1+i, 5)
		comesTo(w, accesses(w, q, asked[i]), 0)
		w.listIs(0, 4)

		w = newWorld(t, of(2))
		w.put(0, 0)
		w.putRetired(0, 5)
		w.putState(4, 0, state.Retired, state.Plain)
		w.put(1+i, 5)
		q = accesses(w, Scan(w.p, 0), row([]mem.Access{load(7), load(8)}, asked[:i])...)
		w.put(1+i, 6)
		if i > 0 {
			w.put(i, 5)
		}
		q = accesses(w, q, row(asked[i:], []mem.Access{store(7, 0)}, reclaimByHand(23, 4, 0))...)
		comesTo(w, q, 1)
		w.listIs(0)
	}
}

// P11.3.

// TestList: Retire words at most, those that name a node, in order, of one thread.
func TestList(t *testing.T) {
	for _, p := range several() {
		w, d := newWorld(t, p), drawn(11)
		for range 40 {
			lists := make([][]int, p.Threads)
			for thread := range p.Threads {
				count := d.below(p.Retire + 1)
				w.put(p.Count(thread), uint64(count))
				if count == p.Retire {
					w.put(p.Count(thread), full(p)[d.below(len(full(p)))])
				}
				for i := range p.Retire {
					word := noNames(p)[d.below(len(noNames(p)))]
					if n := d.below(p.Nodes); d.below(2) == 0 {
						word = uint64(n + 1)
						if i < count {
							lists[thread] = append(lists[thread], n)
						}
					}
					w.put(p.Retired(thread, i), word)
				}
			}
			w.listsAre(lists)
		}
	}
}

// TestListOfTheGreatestNode: the last node is told, and the one behind it isn't there.
func TestListOfTheGreatestNode(t *testing.T) {
	for _, p := range several() {
		w := newWorld(t, p)
		n := uint64(p.Nodes)
		w.putRetired(p.Threads-1, n, n+1, 1, n)
		w.listIs(p.Threads-1, p.Nodes-1, 0, p.Nodes-1)
	}
}

// P11.4.

// TestOneMoreThanHazards: the least Retire that a plan may have; all hazards hold a
// retired node each, and each one in turn is the one that is held by none.
func TestOneMoreThanHazards(t *testing.T) {
	for _, threads := range []int{1, 2, 5, 16} {
		p := of(threads)
		if p.Retire--; p.Formed() {
			t.Fatalf("%+v: there is a lesser Retire", p)
		}
		p.Retire++
		d := drawn(threads)
		for left := range p.Retire {
			w, thread := newWorld(t, p), d.below(threads)
			nodes := d.order(p.Nodes)[:p.Retire]
			w.scatter(&d)
			w.putRetired(thread, names(nodes...)...)
			for i, at := range d.order(p.Retire - 1) {
				n := nodes[i]
				if i >= left {
					n = nodes[i+1]
				}
				w.put(p.Hazard(0, 0)+at, uint64(n+1))
			}
			w.is(w.does(Scan(p, thread), scans(thread)), 1)
			w.freeIs(nodes[left])
			w.is(len(List(p, w.m, mine, thread)), p.Retire-1)
			w.is(w.does(Put(p, thread, nodes[left]), puts(thread, nodes[left])), p.Retire)
		}
	}
}

// TestMoreThanHazards: of more retired nodes, and hazards that are drawn, as many are
// reclaimed at least as there are more; each that is left is held.
func TestMoreThanHazards(t *testing.T) {
	for _, p := range several() {
		if p.Nodes <= hazards(p) {
			continue
		}
		d := drawn(11)
		for range 30 {
			w, thread := newWorld(t, p), d.below(p.Threads)
			many := hazards(p) + 1 + d.below(min(p.Nodes, p.Retire)-hazards(p))
			nodes := d.order(p.Nodes)[:many]
			w.putRetired(thread, names(nodes...)...)
			var held []int
			for i := range hazards(p) {
				held = append(held, nodes[d.below(many)])
				w.put(p.Hazard(i/3, i%3), uint64(held[i]+1))
			}
			if r := w.does(Scan(p, thread), scans(thread)); r < many-hazards(p) {
				t.Errorf("%+v: of %d nodes %d are reclaimed", p, many, r)
			}
			for _, n := range nodes {
				left, list := slices.Contains(List(p, w.m, mine, thread), n), slices.Contains(free.List(p, w.m, mine), n)
				if left != slices.Contains(held, n) || left == list {
					t.Errorf("%+v: the node %d: left %v, free %v", p, n, left, list)
				}
			}
		}
	}
}
