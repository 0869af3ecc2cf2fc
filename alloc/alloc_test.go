package alloc

import (
	"math"
	"slices"
	"testing"

	"cubicle/api"
	"cubicle/free"
	"cubicle/hazard"
	"cubicle/mem"
	"cubicle/plan"
	"cubicle/prog"
	"cubicle/retire"
	"cubicle/state"
)

const ones = math.MaxUint64

// mine is the region that a test's programs work in; the memory has another one of
// the same plan, ahead of it, which none of them may touch.
const mine = 1

// quota is what New comes to where there is no node.
var quota = Grant{Node: api.None, E: api.ErrQuota}

// of is the least plan of so many threads, with more nodes than they may retire. Of
// one thread: hazards from 1 on, a count at 4, retired from 5 on, nodes from 9 on. Of
// two threads: hazards from 1 on, a count at 7, retired from 8 on, a count at 15,
// retired from 16 on, nodes from 23 on.
func of(threads int) plan.Plan {
	return plan.Plan{Nodes: 4*threads + 8, Threads: threads, Retire: 3*threads + 1, Buckets: 1, Gen: 9}
}

// several are plans of several numbers of threads and nodes, with other things ahead
// of them.
func several() []plan.Plan {
	return []plan.Plan{
		of(1), of(2), of(3), of(16),
		{Nodes: 1, Threads: 1, Retire: 4, Domains: 2, Buckets: 1, Gen: 1},
		{Nodes: 2, Threads: 5, Retire: 16, Domains: 3, Buckets: 5, Gen: 2},
		{Nodes: 60, Threads: 2, Retire: 1024, Domains: 64, Buckets: 7, Gen: api.MaxGen},
		{Nodes: 70, Threads: 16, Retire: 49, Domains: 1, Buckets: 2, Gen: 3},
	}
}

// world is a memory, with another word, not 0, at each place of both regions, but of
// the own one's head, hazards and counts, which are 0: so no node is free, held, or
// retired.
type world struct {
	t *testing.T
	p plan.Plan
	m *mem.Memory
	c mem.Cap
}

func newWorld(t *testing.T, p plan.Plan) *world {
	t.Helper()
	m, e := mem.New([]int{p.Size(), p.Size()})
	if e != api.OK {
		t.Fatal(p, e)
	}
	w := &world{t, p, m, m.Cap(mine)}
	for at := range p.Size() {
		w.put(at, 1<<40+uint64(at))
		m.Do(m.Cap(0), mem.Access{Op: mem.Store, At: at, A: 1<<41 + uint64(at)})
	}
	w.put(p.Head(), 0)
	w.putHazards()
	for thread := range p.Threads {
		w.put(p.Count(thread), 0)
	}
	return w
}

// freshWorld is a world whose nodes are all in the free list, in order, and FREE, with
// the Gen 0 and fields of 0. The head's tag is 0.
func freshWorld(t *testing.T, p plan.Plan) *world {
	t.Helper()
	w := newWorld(t, p)
	for at := p.State(0); at < p.Size(); at++ {
		w.put(at, 0)
	}
	if _, _, over := prog.Run(free.Fresh(p), w.m, w.c, 1<<20); !over {
		t.Fatalf("%+v: Fresh isn't over", p)
	}
	return w
}

// put stores the word at that place.
func (w *world) put(at int, word uint64) {
	w.t.Helper()
	if _, ok := w.m.Do(w.c, mem.Access{Op: mem.Store, At: at, A: word}); !ok {
		w.t.Fatalf("there is no place %d", at)
	}
}

// word is the word at that place of the own region.
func (w *world) word(at int) uint64 { return w.m.Peek(mine, at) }

// putHazards lets the first hazards, where all threads' are counted in a row, have
// these words, and the others 0.
func (w *world) putHazards(words ...uint64) {
	w.t.Helper()
	for i := range hazards(w.p) {
		w.put(w.p.Hazard(i/3, i%3), 0)
	}
	for i, word := range words {
		w.put(w.p.Hazard(i/3, i%3), word)
	}
}

// putRetired lets the thread have these retired words, so many as there are.
func (w *world) putRetired(thread int, words ...uint64) {
	w.t.Helper()
	w.put(w.p.Count(thread), uint64(len(words)))
	for i, word := range words {
		w.put(w.p.Retired(thread, i), word)
	}
}

// putFree lets these nodes be in the free list, in order, by the head's tag 0.
func (w *world) putFree(nodes ...int) {
	w.t.Helper()
	at := w.p.Head()
	for _, n := range nodes {
		w.put(at, uint64(n+1))
		at = w.p.Next(n)
	}
	w.put(at, 0)
}

// putState lets the node have that state.
func (w *world) putState(n, gen, mode, kind int) {
	w.t.Helper()
	w.put(w.p.State(n), stateWord(gen, mode, kind))
}

// stateWord is the word of a state, by the places of its bits.
func stateWord(gen, mode, kind int) uint64 {
	return uint64(gen) | uint64(mode)<<30 | uint64(kind)<<32
}

// names are the words that name the nodes.
func names(nodes ...int) []uint64 {
	var l []uint64
	for _, n := range nodes {
		l = append(l, uint64(n+1))
	}
	return l
}

// hazards is how many hazards the plan has.
func hazards(p plan.Plan) int { return 3 * p.Threads }

// words are all words of both regions.
func (w *world) words() []uint64 {
	var l []uint64
	for r := range w.m.Regions() {
		for at := range w.m.Size(r) {
			l = append(l, w.m.Peek(r, at))
		}
	}
	return l
}

// wordsAre asks whether the words are as they were, but for what these accesses of
// the own region did.
func (w *world) wordsAre(was []uint64, done ...mem.Access) {
	w.t.Helper()
	want := slices.Clone(was)
	for _, a := range done {
		word := &want[w.m.Size(0)+a.At]
		switch {
		case a.Op == mem.Store:
			*word = a.A
		case a.Op == mem.Swap && *word == a.A:
			*word = a.B
		}
	}
	if got := w.words(); !slices.Equal(got, want) {
		w.t.Errorf("%+v: the words are %v; want %v", w.p, got, want)
	}
}

// listIs asks whether the thread's retired nodes are these, in order.
func (w *world) listIs(thread int, want ...int) {
	w.t.Helper()
	if got := retire.List(w.p, w.m, mine, thread); !slices.Equal(got, want) {
		w.t.Errorf("%+v: the thread %d retired %v; want %v", w.p, thread, got, want)
	}
}

// freeIs asks whether these nodes are in the free list, in order, and Free tells how
// many they are, without an access.
func (w *world) freeIs(want ...int) {
	w.t.Helper()
	if got := free.List(w.p, w.m, mine); !slices.Equal(got, want) {
		w.t.Errorf("%+v: the free list is %v; want %v", w.p, got, want)
	}
	w.countIs(len(want))
}

// countIs asks whether Free is that, without an access.
func (w *world) countIs(want int) {
	w.t.Helper()
	words, count := w.words(), w.m.Count()
	if got := Free(w.p, w.m, mine); got != want {
		w.t.Errorf("%+v: Free is %d; want %d", w.p, got, want)
	}
	if w.m.Count() != count || !slices.Equal(w.words(), words) {
		w.t.Error("Free did an access")
	}
}

// stateIs asks whether the node's state is that.
func (w *world) stateIs(n, gen, mode, kind int) {
	w.t.Helper()
	if got, want := w.word(w.p.State(n)), stateWord(gen, mode, kind); got != want {
		w.t.Errorf("%+v: the node %d's state is %#x; want %#x", w.p, n, got, want)
	}
}

func load(at int) mem.Access            { return mem.Access{Op: mem.Load, At: at} }
func store(at int, w uint64) mem.Access { return mem.Access{Op: mem.Store, At: at, A: w} }
func trySwap(at int, was, w uint64) mem.Access {
	return mem.Access{Op: mem.Swap, At: at, A: was, B: w}
}

// loads are loads of the places from the one to the other.
func loads(first, last int) []mem.Access {
	var l []mem.Access
	for at := first; at <= last; at++ {
		l = append(l, load(at))
	}
	return l
}

// row is all these accesses, one list behind the other.
func row(l ...[]mem.Access) []mem.Access { return slices.Concat(l...) }

// these is a list of the accesses.
func these(l ...mem.Access) []mem.Access { return l }

// accesses asks whether the program's next accesses are these, does them, and is the
// program that goes on.
func accesses[R any](w *world, q prog.Prog[R], want ...mem.Access) prog.Prog[R] {
	w.t.Helper()
	for i, a := range want {
		if got, ok := q.Access(); got != a || !ok {
			w.t.Fatalf("%+v: the access %d is %+v, %v; want %+v", w.p, i, got, ok, a)
		}
		if r, over := q.Over(); over {
			w.t.Fatalf("%+v: over, with %v, ahead of the access %d", w.p, r, i)
		}
		count := w.m.Count()
		next, ok := q.Step(w.m, w.c)
		if !ok || w.m.Count() != count+1 {
			w.t.Fatalf("%+v: the step %d: %v, %d accesses", w.p, i, ok, w.m.Count()-count)
		}
		q = next
	}
	return q
}

// comesTo asks whether the program is over, with that.
func comesTo[R comparable](w *world, q prog.Prog[R], want R) {
	w.t.Helper()
	if r, over := q.Over(); r != want || !over {
		w.t.Errorf("%+v: it comes to %+v, over %v; want %+v", w.p, r, over, want)
	}
	if a, ok := q.Access(); ok {
		w.t.Errorf("%+v: it is over, and has the access %+v", w.p, a)
	}
}

// is asks whether the two are the same.
func is[R comparable](w *world, got, want R) {
	w.t.Helper()
	if got != want {
		w.t.Errorf("%+v: %+v; want %+v", w.p, got, want)
	}
}

// chapter does what the chapter's words say, and those of the chapters that it calls,
// an access behind the other: do is what an access tells.
type chapter struct {
	p  plan.Plan
	do func(mem.Access) uint64
}

func (x chapter) load(at int) uint64     { return x.do(load(at)) }
func (x chapter) store(at int, w uint64) { x.do(store(at, w)) }

// state is the Gen and the Kind that the node's state has.
func (x chapter) state(n int) (gen, kind uint64) {
	word := x.load(x.p.State(n))
	if word>>34 != 0 || word>>32 == 3 {
		return 0, 0
	}
	return word & (1<<30 - 1), word >> 32
}

func (x chapter) pop() int {
	for {
		head := x.load(x.p.Head())
		first := head & (1<<21 - 1)
		if first == 0 {
			return api.None
		}
		next := x.load(x.p.Next(int(first-1))) & (1<<21 - 1)
		if x.do(trySwap(x.p.Head(), head, (head>>21+1)<<21|next)) == head {
			return int(first - 1)
		}
	}
}

func (x chapter) push(n int) {
	for {
		head := x.load(x.p.Head())
		x.store(x.p.Next(n), head&(1<<21-1))
		if x.do(trySwap(x.p.Head(), head, (head>>21+1)<<21|uint64(n+1))) == head {
			return
		}
	}
}

func (x chapter) put(thread, n int) bool {
	count := x.load(x.p.Count(thread))
	if count >= uint64(x.p.Retire) {
		return false
	}
	x.store(x.p.Retired(thread, int(count)), uint64(n)+1)
	x.store(x.p.Count(thread), count+1)
	return true
}

func (x chapter) reclaim(n int) {
	for f := range 3 {
		x.store(x.p.Field(n, f), 0)
	}
	gen, _ := x.state(n)
	if gen >= uint64(x.p.Gen) {
		x.store(x.p.State(n), gen|3<<30)
		return
	}
	x.store(x.p.State(n), gen+1)
	x.push(n)
}

func (x chapter) held(word uint64) bool {
	for i := range hazards(x.p) {
		if x.load(x.p.Hazard(i/3, i%3)) == word {
			return true
		}
	}
	return false
}

func (x chapter) scan(thread int) {
	left := int(min(x.load(x.p.Count(thread)), uint64(x.p.Retire)))
	for i := left - 1; i >= 0; i-- {
		word := x.load(x.p.Retired(thread, i))
		if word == 0 || word > uint64(x.p.Nodes) || x.held(word) {
			continue
		}
		left--
		if i != left {
			x.store(x.p.Retired(thread, i), x.load(x.p.Retired(thread, left)))
		}
		x.store(x.p.Count(thread), uint64(left))
		x.reclaim(int(word - 1))
	}
}

func (x chapter) grant(thread, kind int) Grant {
	n := x.pop()
	if n == api.None {
		x.scan(thread)
		n = x.pop()
	}
	if n == api.None {
		return quota
	}
	gen, _ := x.state(n)
	x.store(x.p.State(n), gen|1<<30|uint64(kind)<<32)
	return Grant{Node: n, Gen: int(gen)}
}

func (x chapter) stash(thread, n int) int {
	if x.put(thread, n) {
		return n
	}
	x.scan(thread)
	if x.put(thread, n) {
		return n
	}
	return api.None
}

func (x chapter) retire(thread, n int) int {
	gen, kind := x.state(n)
	x.store(x.p.State(n), gen|2<<30|kind<<32)
	return x.stash(thread, n)
}

// these are what the chapter's calls do.
func grants(thread, kind int) func(chapter) Grant {
	return func(x chapter) Grant { return x.grant(thread, kind) }
}
func stashes(thread, n int) func(chapter) int {
	return func(x chapter) int { return x.stash(thread, n) }
}
func retires(thread, n int) func(chapter) int {
	return func(x chapter) int { return x.retire(thread, n) }
}

// did is an access that a program did, and what it was told.
type did struct {
	a    mem.Access
	told uint64
}

// steps runs the program to its end, and tells what it did, and the program that is
// over then.
func steps[R any](w *world, q prog.Prog[R]) ([]did, prog.Prog[R]) {
	w.t.Helper()
	var l []did
	for {
		a, ok := q.Access()
		if !ok {
			return l, q
		}
		told := w.word(a.At)
		next, ok := q.Step(w.m, w.c)
		if !ok {
			w.t.Fatalf("%+v: the step %d, %+v, is refused", w.p, len(l), a)
		}
		l, q = append(l, did{a, told}), next
	}
}

// follows asks whether the chapter, told the same, does the same, and is what it comes
// to.
func follows[R any](w *world, l []did, words func(chapter) R) R {
	w.t.Helper()
	i := 0
	r := words(chapter{w.p, func(a mem.Access) uint64 {
		if i == len(l) || l[i].a != a {
			w.t.Fatalf("%+v: the access %d must be %+v; it did %+v", w.p, i, a, l)
		}
		i++
		return l[i-1].told
	}})
	if i != len(l) {
		w.t.Fatalf("%+v: it must do %d accesses; it did %+v", w.p, i, l)
	}
	return r
}

// does asks whether the program, alone, does what the chapter's words do, and changes
// no other word; it is what it comes to.
func does[R comparable](w *world, q prog.Prog[R], words func(chapter) R) R {
	w.t.Helper()
	was := w.words()
	l, q := steps(w, q)
	r := follows(w, l, words)
	comesTo(w, q, r)
	var done []mem.Access
	for _, d := range l {
		done = append(done, d.a)
	}
	w.wordsAre(was, done...)
	return r
}

// grant is what the thread's New of the kind comes to, alone.
func (w *world) grant(thread, kind int) Grant {
	w.t.Helper()
	return does(w, New(w.p, thread, kind), grants(thread, kind))
}

// stash and retire are what the thread's Stash and Retire of the node come to, alone.
func (w *world) stash(thread, n int) int {
	w.t.Helper()
	return does(w, Stash(w.p, thread, n), stashes(thread, n))
}

func (w *world) retire(thread, n int) int {
	w.t.Helper()
	return does(w, Retire(w.p, thread, n), retires(thread, n))
}

// drawn is a fixed row of numbers that look as if they were drawn.
type drawn uint64

func (d *drawn) below(n int) int {
	*d = *d*6364136223846793005 + 1442695040888963407
	return int(uint64(*d) >> 33 % uint64(n))
}

func (d *drawn) word() uint64 {
	return uint64(d.below(1<<31))<<33 ^ uint64(d.below(1<<31))<<10 ^ uint64(d.below(1<<31))
}

// order is the first so many numbers from 0 on, in an order that is drawn.
func (d *drawn) order(many int) []int {
	l := make([]int, many)
	for i := range l {
		l[i] = i
		k := d.below(i + 1)
		l[i], l[k] = l[k], l[i]
	}
	return l
}

// upTo are the numbers from 0 on, below that.
func upTo(many int) []int {
	l := make([]int, many)
	for i := range l {
		l[i] = i
	}
	return l
}

// full are words of a count for which there is no room.
func full(p plan.Plan) []uint64 {
	r := uint64(p.Retire)
	return []uint64{r, r + 1, 2 * r, 1 << 20, 1<<31 - 1, 1 << 31, 1<<32 - 1, 1 << 32, 1<<32 + 1, 1<<32 + r - 1,
		1<<63 - 1, 1 << 63, 1<<63 + 1, 1<<63 + r, ones - r, ones - 1, ones}
}

// noNames are retired words that name no node of the plan.
func noNames(p plan.Plan) []uint64 {
	n := uint64(p.Nodes)
	return []uint64{0, n + 1, n + 2, 1 << 21, 1 << 31, 1<<31 + 1, 1 << 32, 1<<32 + 1, 1<<32 + n, 1 << 63, 1<<63 + 1, 1<<63 + n, ones - 1, ones}
}

// noStates are words that are no state's.
func noStates() []uint64 {
	return []uint64{3 << 32, 3<<32 | 9, 3<<32 | 2<<30 | 8, 3<<32 | 3<<30 | api.MaxGen, 1 << 34, 1<<34 | 9, 1<<34 | 1<<32, 1 << 35,
		1 << 40, 1 << 62, 1 << 63, 1<<63 | 9, 1<<63 | 2<<30 | 5, ones, ones - 1, ones - 1<<34 + 1}
}

// gens are Gens that a state may have, up to the greatest one.
func gens(p plan.Plan) []int {
	l := []int{0, 1, p.Gen / 2, p.Gen - 1, p.Gen, p.Gen + 1, 2 * p.Gen, 1<<29 - 1, 1 << 29, api.MaxGen}
	return slices.DeleteFunc(l, func(gen int) bool { return gen > api.MaxGen })
}

// scatter lets the states be of RETIRED nodes, with Gens that are drawn.
func (w *world) scatter(d *drawn) {
	w.t.Helper()
	for n := range w.p.Nodes {
		w.putState(n, d.below(w.p.Gen), state.Retired, d.below(3))
	}
}

// TestExample: the chapter's.
func TestExample(t *testing.T) {
	p := plan.Plan{Nodes: 1, Threads: 1, Retire: 4, Buckets: 1, Gen: 9}
	w := freshWorld(t, p)
	for gen := range 4 {
		for k, want := range []Grant{{Gen: gen}, quota} {
			if g, _, over := prog.Run(New(p, 0, 0), w.m, w.c, 99); g != want || !over {
				t.Errorf("the %d. New by the Gen %d: %+v, over %v", k, gen, g, over)
			}
		}
		if n, _, over := prog.Run(Retire(p, 0, 0), w.m, w.c, 99); n != 0 || !over {
			t.Errorf("Retire: %d, over %v", n, over)
		}
	}
}

// P12.1, with nodes that are free.

// TestNewByHand is a plan of one thread, whose accesses are told by numbers.
func TestNewByHand(t *testing.T) {
	w := freshWorld(t, of(1))
	w.putState(2, 7, state.Free, state.Plain)
	was := w.words()
	a := these(load(0), load(10), trySwap(0, 1, 2|1<<21), load(9), store(9, 1<<30))
	comesTo(w, accesses(w, New(w.p, 0, 0), a...), Grant{})
	w.freeIs(upTo(12)[1:]...)
	b := these(load(0), load(15), trySwap(0, 2|1<<21, 3|2<<21), load(14), store(14, 1<<30|1<<32))
	comesTo(w, accesses(w, New(w.p, 0, 1), b...), Grant{Node: 1})
	w.freeIs(upTo(12)[2:]...)
	c := these(load(0), load(20), trySwap(0, 3|2<<21, 4|3<<21), load(19), store(19, 7|1<<30|2<<32))
	comesTo(w, accesses(w, New(w.p, 0, 2), c...), Grant{Node: 2, Gen: 7})
	w.freeIs(upTo(12)[3:]...)
	w.wordsAre(was, row(a, b, c)...)
	w.stateIs(0, 0, state.Live, state.Plain)
	w.stateIs(1, 0, state.Live, state.Queued)
	w.stateIs(2, 7, state.Live, state.Listed)
}

// TestNewIsFiveSteps: it is over behind these, and not ahead of them.
func TestNewIsFiveSteps(t *testing.T) {
	for most := -1; most < 8; most++ {
		w := freshWorld(t, of(3))
		w.putState(0, 4, state.Free, state.Plain)
		g, k, over := prog.Run(New(w.p, 2, 1), w.m, w.c, most)
		want := Grant{}
		if most >= 5 {
			want.Gen = 4
		}
		if k != min(5, max(0, most)) || over != (most >= 5) || g != want {
			t.Errorf("%d steps at most: %+v, %d steps, over %v", most, g, k, over)
		}
	}
}

// TestNewTillThereIsNone: each node once, of each kind, by each thread in turn; then
// there is none, again and again.
func TestNewTillThereIsNone(t *testing.T) {
	for _, p := range several() {
		w := freshWorld(t, p)
		w.countIs(p.Nodes)
		for n := range p.Nodes {
			is(w, w.grant(n%p.Threads, n%3), Grant{Node: n})
			w.stateIs(n, 0, state.Live, n%3)
			w.freeIs(upTo(p.Nodes)[n+1:]...)
		}
		for i := range 2 * p.Threads {
			is(w, w.grant(i%p.Threads, i%3), quota)
			w.freeIs()
		}
	}
}

// TestNewOfEachState: the Gen is the state's, whatever that was else.
func TestNewOfEachState(t *testing.T) {
	for _, p := range several() {
		w, n := newWorld(t, p), p.Nodes-1
		for was := range 4 * 3 {
			for _, gen := range gens(p) {
				for kind := range 3 {
					w.putFree(n)
					w.putState(n, gen, was/3, was%3)
					is(w, w.grant(p.Threads-1, kind), Grant{Node: n, Gen: gen})
					w.stateIs(n, gen, state.Live, kind)
					w.freeIs()
				}
			}
		}
	}
}

// TestNewOfNoState: a word that is none's counts as a zero state's.
func TestNewOfNoState(t *testing.T) {
	for _, p := range several() {
		w := newWorld(t, p)
		for i, word := range noStates() {
			w.putFree(0)
			w.put(p.State(0), word)
			is(w, w.grant(0, i%3), Grant{})
			w.stateIs(0, 0, state.Live, i%3)
		}
	}
}

// TestNewDoesNotScan: while a node is free, the retired ones stay, held or not.
func TestNewDoesNotScan(t *testing.T) {
	for _, p := range several() {
		w, n := newWorld(t, p), p.Nodes-1
		w.putRetired(0, names(0, 0, 0)...)
		w.putFree(n)
		was := w.words()
		next, at := p.Next(n), p.State(n)
		w.putState(n, 1, state.Free, state.Plain)
		l := these(load(0), load(next), trySwap(0, uint64(n+1), 1<<21), load(at), store(at, 1|1<<30|2<<32))
		comesTo(w, accesses(w, New(p, 0, 2), l...), Grant{Node: n, Gen: 1})
		w.wordsAre(was, l...)
		w.listIs(0, 0, 0, 0)
	}
}

// TestNewOfTheGreatestPlan: the greatest node, by the greatest Gen, by the last thread.
func TestNewOfTheGreatestPlan(t *testing.T) {
	p := plan.Plan{Nodes: api.MaxNodes, Threads: api.MaxThreads, Retire: api.MaxRetire, Buckets: 1, Gen: api.MaxGen}
	m, e := mem.New([]int{p.Size()})
	if e != api.OK {
		t.Fatal(e)
	}
	c, n := m.Cap(0), api.MaxNodes-1
	m.Do(c, store(p.Head(), api.MaxNodes))
	m.Do(c, store(p.State(n), api.MaxGen-1))
	for i, want := range []Grant{{Node: n, Gen: api.MaxGen - 1}, {Node: n, Gen: api.MaxGen}, quota, quota} {
		g, k, over := prog.Run(New(p, 15, 2), m, c, 999)
		if steps := []int{5, 2 + 50 + 1 + 8 + 5 - 1, 2 + 50 + 1 + 5, 3}[i]; g != want || k != steps || !over {
			t.Errorf("%d: %+v, %d steps, over %v; want %+v, %d steps", i, g, k, over, want, steps)
		}
		if g.E != api.OK {
			continue
		}
		if r, k, over := prog.Run(Retire(p, 15, n), m, c, 999); r != n || k != 5 || !over {
			t.Errorf("%d: Retire is %d, %d steps, over %v", i, r, k, over)
		}
	}
	if s, _ := state.Of(m.Peek(0, p.State(n))); s != (state.State{Gen: api.MaxGen, Mode: state.Gone}) || Free(p, m, 0) != 0 {
		t.Error(s, Free(p, m, 0))
	}
}

// P12.1, without a node that is free.

// TestNewWithoutANode: where the thread retired none, whatever others did.
func TestNewWithoutANode(t *testing.T) {
	for _, p := range several() {
		for _, thread := range []int{0, p.Threads - 1} {
			w := newWorld(t, p)
			w.put(0, 9<<21)
			for other := range p.Threads {
				if other != thread {
					w.putRetired(other, 1)
				}
			}
			was := w.words()
			comesTo(w, accesses(w, New(p, thread, 0), load(0), load(p.Count(thread)), load(0)), quota)
			w.wordsAre(was)
			w.freeIs()
		}
	}
}

// reclaimByHand is what Reclaim of a node, of a plan whose nodes begin there, does,
// that has the state Gen 0, where the head is that.
func reclaimByHand(nodes, n int, head uint64) []mem.Access {
	s := nodes + 5*n
	return these(store(s+2, 0), store(s+3, 0), store(s+4, 0), load(s), store(s, 1),
		load(0), store(s+1, head&(1<<21-1)), trySwap(0, head, uint64(n+1)|(head>>21+1)<<21))
}

// handWorld is a world of two threads, whose nodes are all RETIRED; the thread 0
// retired the nodes 3, 5 and 7, the thread 1 the nodes 2 and 4.
func handWorld(t *testing.T) *world {
	w := newWorld(t, of(2))
	for n := range w.p.Nodes {
		w.putState(n, 0, state.Retired, state.Plain)
	}
	w.putRetired(0, 4, 6, 8)
	w.putRetired(1, 3, 5)
	return w
}

// newIs asks whether the thread 0's New of the kind LISTED does that, comes to that,
// and leaves these retired, and these free, in order.
func (w *world) newIs(want []mem.Access, g Grant, left, list []int) {
	w.t.Helper()
	was := w.words()
	comesTo(w, accesses(w, New(w.p, 0, state.Listed), want...), g)
	w.wordsAre(was, want...)
	w.listIs(0, left...)
	w.listIs(1, 2, 4)
	w.freeIs(list...)
}

// TestNewScansByHand is a plan of two threads, whose accesses are told by numbers: by
// hazards that hold none of the retired nodes, some, and all of them.
func TestNewScansByHand(t *testing.T) {
	asked, begin, live := loads(1, 6), these(load(0), load(7)), uint64(1|1<<30|2<<32)
	w := handWorld(t)
	w.newIs(row(begin,
		these(load(10)), asked, these(store(7, 2)), reclaimByHand(23, 7, 0),
		these(load(9)), asked, these(store(7, 1)), reclaimByHand(23, 5, 8|1<<21),
		these(load(8)), asked, these(store(7, 0)), reclaimByHand(23, 3, 6|2<<21),
		these(load(0), load(39), trySwap(0, 4|3<<21, 6|4<<21), load(38), store(38, live)),
	), Grant{Node: 3, Gen: 1}, nil, []int{5, 7})
	w.newIs(these(load(0), load(49), trySwap(0, 6|4<<21, 8|5<<21), load(48), store(48, live)),
		Grant{Node: 5, Gen: 1}, nil, []int{7})

	w = handWorld(t)
	w.putHazards(4, 8)
	w.newIs(row(begin,
		these(load(10)), asked[:2],
		these(load(9)), asked, these(load(10), store(9, 8), store(7, 2)), reclaimByHand(23, 5, 0),
		these(load(8)), asked[:1],
		these(load(0), load(49), trySwap(0, 6|1<<21, 2<<21), load(48), store(48, live)),
	), Grant{Node: 5, Gen: 1}, []int{3, 7}, nil)

	w = handWorld(t)
	w.putHazards(0, 0, 0, 0, 4)
	w.newIs(row(begin,
		these(load(10)), asked, these(store(7, 2)), reclaimByHand(23, 7, 0),
		these(load(9)), asked, these(store(7, 1)), reclaimByHand(23, 5, 8|1<<21),
		these(load(8)), asked[:5],
		these(load(0), load(49), trySwap(0, 6|2<<21, 8|3<<21), load(48), store(48, live)),
	), Grant{Node: 5, Gen: 1}, []int{3}, []int{7})

	w = handWorld(t)
	w.putHazards(6, 0, 8, 0, 0, 4)
	all := row(begin, these(load(10)), asked[:3], these(load(9)), asked[:1], these(load(8)), asked, these(load(0)))
	w.newIs(all, quota, []int{3, 5, 7}, nil)
	w.newIs(all, quota, []int{3, 5, 7}, nil)
}

// TestNewScans: of no retired node, one and several, by each thread, where those are
// held whose bits are set, by hazards anywhere: the first one that isn't held, which
// is the last one that is reclaimed, is granted.
func TestNewScans(t *testing.T) {
	for _, p := range several() {
		d := drawn(p.Size())
		for many := range min(p.Nodes, p.Retire, 6) + 1 {
			for bits := range 1 << many {
				w := newWorld(t, p)
				w.scatter(&d)
				thread := d.below(p.Threads)
				nodes := d.order(p.Nodes)[:many]
				w.putRetired(thread, names(nodes...)...)
				held, loose := w.hold(&d, nodes, bits)
				w.newScans(thread, d.below(3), held, loose)
			}
		}
	}
}

// hold lets those of the nodes be held whose bits are set, as far as there are hazards;
// it is these, and the others.
func (w *world) hold(d *drawn, nodes []int, bits int) (held, loose []int) {
	w.t.Helper()
	places := d.order(hazards(w.p))
	for i, n := range nodes {
		if bits>>i&1 == 0 || len(held) == len(places) {
			loose = append(loose, n)
			continue
		}
		w.put(w.p.Hazard(0, 0)+places[len(held)], uint64(n+1))
		held = append(held, n)
	}
	return held, loose
}

// newScans asks for New's grants, till there is none.
func (w *world) newScans(thread, kind int, held, loose []int) {
	w.t.Helper()
	was := w.words()
	for i, n := range loose {
		gen := int(was[w.m.Size(0)+w.p.State(n)] & (1<<30 - 1))
		is(w, w.grant(thread, kind), Grant{Node: n, Gen: gen + 1})
		w.stateIs(n, gen+1, state.Live, kind)
		w.freeIs(loose[i+1:]...)
		for f := range 3 {
			is(w, w.word(w.p.Field(n, f)), 0)
		}
	}
	is(w, w.grant(thread, kind), quota)
	w.freeIs()
	l := retire.List(w.p, w.m, mine, thread)
	slices.Sort(l)
	slices.Sort(held)
	if !slices.Equal(l, held) {
		w.t.Errorf("%+v: retired are %v; held are %v", w.p, l, held)
	}
}

// TestNewForTheLastTime: a node is granted by the plan's greatest Gen; behind that it
// is gone, and neither granted nor counted any more, while others are.
func TestNewForTheLastTime(t *testing.T) {
	for _, p := range several() {
		w := freshWorld(t, p)
		w.putFree(0)
		w.putState(0, p.Gen-1, state.Free, state.Plain)
		for gen := p.Gen - 1; gen <= p.Gen; gen++ {
			is(w, w.grant(0, 1), Grant{Gen: gen})
			w.countIs(0)
			is(w, w.retire(0, 0), 0)
			w.stateIs(0, gen, state.Retired, state.Queued)
			w.countIs(0)
		}
		for range 2 {
			is(w, w.grant(0, 1), quota)
			w.stateIs(0, p.Gen, state.Gone, state.Plain)
			w.listIs(0)
			w.freeIs()
		}
	}
	w := freshWorld(t, of(1))
	w.putFree()
	w.putState(3, 9, state.Retired, state.Plain)
	w.putState(4, 8, state.Retired, state.Plain)
	w.putState(5, 9, state.Retired, state.Plain)
	w.putRetired(0, 4, 5, 6)
	is(w, w.grant(0, 0), Grant{Node: 4, Gen: 9})
	is(w, w.grant(0, 0), quota)
	w.listIs(0)
	w.freeIs()
}

// TestNewScansOnce: where others take what it reclaimed there is no node for it, and
// what they push meanwhile it is granted.
func TestNewScansOnce(t *testing.T) {
	w := handWorld(t)
	w.putRetired(0, 4)
	begin := row(these(load(0), load(7), load(8)), loads(1, 6), these(store(7, 0)), reclaimByHand(23, 3, 0))
	q := accesses(w, New(w.p, 0, 0), begin...)
	w.put(0, 2<<21)
	w.putRetired(0, 6)
	comesTo(w, accesses(w, q, load(0)), quota)
	w.listIs(0, 5)

	w = handWorld(t)
	w.putRetired(0, 4)
	w.put(0, 0)
	q = accesses(w, New(w.p, 0, 0), begin...)
	q = accesses(w, q, load(0), load(39))
	w.put(0, 2<<21)
	comesTo(w, accesses(w, q, trySwap(0, 4|1<<21, 2<<21), load(0)), quota)

	w = handWorld(t)
	w.putRetired(0)
	q = accesses(w, New(w.p, 0, 0), load(0), load(7))
	w.putFree(6, 8)
	w.putState(6, 5, state.Free, state.Plain)
	comesTo(w, accesses(w, q, load(0), load(54), trySwap(0, 7, 9|1<<21), load(53), store(53, 5|1<<30)), Grant{Node: 6, Gen: 5})
	w.freeIs(8)
}

// TestNewBeginsItsPopAnew: where the head is another one at its swap: it is granted
// the node that is first then, or, if there is none, scans.
func TestNewBeginsItsPopAnew(t *testing.T) {
	w := freshWorld(t, of(1))
	q := accesses(w, New(w.p, 0, 0), load(0), load(10))
	w.put(0, 2|1<<21)
	q = accesses(w, q, trySwap(0, 1, 2|1<<21), load(0), load(15), trySwap(0, 2|1<<21, 3|2<<21))
	comesTo(w, accesses(w, q, load(14), store(14, 1<<30)), Grant{Node: 1})

	w = freshWorld(t, of(1))
	w.putRetired(0, 4)
	q = accesses(w, New(w.p, 0, 0), load(0), load(10))
	w.put(0, 1<<21)
	q = accesses(w, q, trySwap(0, 1, 2|1<<21), load(0), load(4), load(5), load(1), load(2), load(3), store(4, 0))
	q = accesses(w, q, reclaimByHand(9, 3, 1<<21)...)
	q = accesses(w, q, load(0), load(25), trySwap(0, 4|2<<21, 3<<21), load(24), store(24, 1|1<<30))
	comesTo(w, q, Grant{Node: 3, Gen: 1})
}

// P12.2.

// TestStashByHand is a plan of two threads, whose accesses are told by numbers.
func TestStashByHand(t *testing.T) {
	w := newWorld(t, of(2))
	was := w.words()
	comesTo(w, accesses(w, Stash(w.p, 0, 4), load(7), store(8, 5), store(7, 1)), 4)
	comesTo(w, accesses(w, Stash(w.p, 1, 15), load(15), store(16, 16), store(15, 1)), 15)
	comesTo(w, accesses(w, Stash(w.p, 0, 0), load(7), store(9, 1), store(7, 2)), 0)
	comesTo(w, accesses(w, Stash(w.p, 1, 2), load(15), store(17, 3), store(15, 2)), 2)
	w.wordsAre(was, store(7, 2), store(8, 5), store(9, 1), store(15, 2), store(16, 16), store(17, 3))
	w.listIs(0, 4, 0)
	w.listIs(1, 15, 2)
	w.freeIs()
}

// TestRetireByHand is a plan of two threads, whose accesses are told by numbers.
func TestRetireByHand(t *testing.T) {
	w := newWorld(t, of(2))
	w.putState(4, 6, state.Live, state.Queued)
	w.putState(0, 9, state.Live, state.Plain)
	was := w.words()
	a := these(load(43), store(43, 6|2<<30|1<<32), load(7), store(8, 5), store(7, 1))
	comesTo(w, accesses(w, Retire(w.p, 0, 4), a...), 4)
	b := these(load(23), store(23, 9|2<<30), load(7), store(9, 1), store(7, 2))
	comesTo(w, accesses(w, Retire(w.p, 0, 0), b...), 0)
	w.wordsAre(was, row(a, b)...)
	w.listIs(0, 4, 0)
	w.listIs(1)
	w.freeIs()
}

// fullWorld is a world of one thread, which retired the nodes 3, 5, 7 and 9: there is
// no room. All nodes are RETIRED.
func fullWorld(t *testing.T) *world {
	w := newWorld(t, of(1))
	for n := range w.p.Nodes {
		w.putState(n, 0, state.Retired, state.Plain)
	}
	w.putRetired(0, 4, 6, 8, 10)
	return w
}

// stashIs asks whether Stash of the node 2 does that, and so does Retire of it behind
// what that does of its state; what they come to; and what they leave retired, and
// free, in order.
func (w *world) stashIs(want []mem.Access, r int, left, list []int) {
	w.t.Helper()
	first := w.words()
	w.putState(2, 8, state.Live, state.Listed)
	was := w.words()
	comesTo(w, accesses(w, Stash(w.p, 0, 2), want...), r)
	w.wordsAre(was, want...)
	w.listIs(0, left...)
	w.freeIs(list...)

	w.lay(first)
	w.putState(2, 8, state.Live, state.Listed)
	want = row(these(load(19), store(19, 8|2<<30|2<<32)), want)
	comesTo(w, accesses(w, Retire(w.p, 0, 2), want...), r)
	w.wordsAre(was, want...)
	w.stateIs(2, 8, state.Retired, state.Listed)
	w.listIs(0, left...)
	w.freeIs(list...)
	w.lay(first)
}

// lay lets all the words of the own region be these.
func (w *world) lay(words []uint64) {
	w.t.Helper()
	for at := range w.p.Size() {
		w.put(at, words[w.m.Size(0)+at])
	}
}

// TestStashWithoutRoomByHand is a plan of one thread, whose accesses are told by
// numbers: by hazards that hold none of the retired nodes, some, and all of them.
func TestStashWithoutRoomByHand(t *testing.T) {
	asked, begin := loads(1, 3), these(load(4), load(4))
	w := fullWorld(t)
	w.stashIs(row(begin,
		these(load(8)), asked, these(store(4, 3)), reclaimByHand(9, 9, 0),
		these(load(7)), asked, these(store(4, 2)), reclaimByHand(9, 7, 10|1<<21),
		these(load(6)), asked, these(store(4, 1)), reclaimByHand(9, 5, 8|2<<21),
		these(load(5)), asked, these(store(4, 0)), reclaimByHand(9, 3, 6|3<<21),
		these(load(4), store(5, 3), store(4, 1)),
	), 2, []int{2}, []int{3, 5, 7, 9})

	w.putHazards(4, 10, 8)
	w.stashIs(row(begin,
		these(load(8)), asked[:2], these(load(7)), asked,
		these(load(6)), asked, these(load(8), store(6, 10), store(4, 3)), reclaimByHand(9, 5, 0),
		these(load(5)), asked[:1],
		these(load(4), store(8, 3), store(4, 4)),
	), 2, []int{3, 9, 7, 2}, []int{5})

	w.putHazards(0, 6)
	w.putRetired(0, 6, 6, 6, 6)
	w.stashIs(row(begin, these(load(8)), asked[:2], these(load(7)), asked[:2], these(load(6)), asked[:2],
		these(load(5)), asked[:2], these(load(4))), api.None, []int{5, 5, 5, 5}, nil)

	w.putRetired(0, 0, 13, 1<<32, ones)
	w.stashIs(row(begin, these(load(8), load(7), load(6), load(5), load(4))), api.None, nil, nil)
}

// TestStashAndRetire: of several nodes by several threads, in turn, with hazards that
// come and go, far beyond the room that there is.
func TestStashAndRetire(t *testing.T) {
	for _, p := range several() {
		w, d := freshWorld(t, p), drawn(12)
		for range min(p.Threads*(p.Retire+4), 400) {
			w.put(p.Hazard(d.below(p.Threads), d.below(3)), uint64(d.below(p.Nodes+1)))
			thread, n := d.below(p.Threads), []int{0, p.Nodes - 1, d.below(p.Nodes)}[d.below(3)]
			before := retire.List(p, w.m, mine, thread)
			s := w.word(p.State(n))
			r := api.None
			if d.below(2) == 0 {
				r = w.stash(thread, n)
			} else {
				r = w.retire(thread, n)
			}
			w.stashed(thread, n, r, s, before)
		}
	}
}

// stashed asks what follows of what a Stash or a Retire of the node came to, where its
// state was that, and the thread's retired nodes were these.
func (w *world) stashed(thread, n, r int, was uint64, before []int) {
	w.t.Helper()
	after := retire.List(w.p, w.m, mine, thread)
	switch {
	case len(before) < w.p.Retire:
		is(w, r, n)
		w.listIs(thread, append(before, n)...)
	case r == n:
		is(w, after[len(after)-1], n)
	default:
		is(w, r, api.None)
		w.listIs(thread, before...)
	}
	if s, _ := state.Of(was); len(before) < w.p.Retire && w.word(w.p.State(n)) != was {
		w.stateIs(n, s.Gen, state.Retired, s.Kind)
	}
}

// TestStashOfTheLast: where the count is one less than Retire, there is room, and
// nothing is scanned.
func TestStashOfTheLast(t *testing.T) {
	for _, p := range several() {
		for thread := range p.Threads {
			w, n := newWorld(t, p), p.Nodes-1
			count := p.Count(thread)
			w.putRetired(thread, slices.Repeat(names(0), p.Retire-1)...)
			was := w.words()
			l := these(load(count), store(count+p.Retire, uint64(p.Nodes)), store(count, uint64(p.Retire)))
			comesTo(w, accesses(w, Stash(p, thread, n), l...), n)
			w.wordsAre(was, l...)
			w.put(count, uint64(p.Retire-1))
			w.putState(n, 1, state.Live, state.Plain)
			at := p.State(n)
			comesTo(w, accesses(w, Retire(p, thread, n), row(these(load(at), store(at, 1|2<<30)), l)...), n)
		}
	}
}

// TestStashOfACountAboveRetire: Retire words are scanned; behind that there is room,
// if one was reclaimed; else the count stays as it is.
func TestStashOfACountAboveRetire(t *testing.T) {
	for _, p := range []plan.Plan{of(1), of(2), of(16)} {
		nodes, n := upTo(p.Retire), p.Nodes-1
		for _, word := range full(p) {
			w := newWorld(t, p)
			w.putRetired(0, names(nodes...)...)
			w.put(p.Count(0), word)
			is(w, w.stash(0, n), n)
			is(w, w.word(p.Count(0)), 1)
			w.listIs(0, n)
			w.freeIs(nodes...)

			w = newWorld(t, p)
			w.putRetired(0, names(nodes...)...)
			w.put(p.Count(0), word)
			w.putHazards(names(nodes[1:]...)...)
			is(w, w.retire(0, n), n)
			is(w, w.word(p.Count(0)), uint64(p.Retire))
			w.listIs(0, append(append([]int{p.Retire - 1}, nodes[1:p.Retire-1]...), n)...)
			w.freeIs(0)

			w.putRetired(0, make([]uint64, p.Retire)...)
			w.put(p.Count(0), word)
			is(w, w.stash(0, n), api.None)
			is(w, w.retire(0, n), api.None)
			is(w, w.word(p.Count(0)), word)
			w.freeIs(0)
		}
	}
}

// TestRetireOfEachState: it has its Gen and Kind, and is RETIRED, room or not.
func TestRetireOfEachState(t *testing.T) {
	for _, p := range several() {
		w, n := newWorld(t, p), p.Nodes-1
		for was := range 4 * 3 {
			for _, gen := range gens(p) {
				w.putRetired(0)
				w.putState(n, gen, was/3, was%3)
				is(w, w.retire(0, n), n)
				w.stateIs(n, gen, state.Retired, was%3)
				w.listIs(0, n)
				w.putRetired(0, make([]uint64, p.Retire)...)
				w.putState(n, gen, was/3, was%3)
				is(w, w.retire(0, n), api.None)
				w.stateIs(n, gen, state.Retired, was%3)
			}
		}
	}
}

// TestRetireOfNoState: a word that is none's counts as a zero state's. Stash leaves it
// as it is.
func TestRetireOfNoState(t *testing.T) {
	for _, p := range several() {
		w := newWorld(t, p)
		for _, word := range noStates() {
			w.putRetired(0)
			w.put(p.State(0), word)
			is(w, w.stash(0, 0), 0)
			is(w, w.word(p.State(0)), word)
			is(w, w.retire(0, 0), 0)
			w.stateIs(0, 0, state.Retired, state.Plain)
			w.listIs(0, 0, 0)
		}
	}
}

// TestStashByTheLeastRetire: all hazards hold a retired node each, and each one in turn
// is the one that is held by none: there is room always.
func TestStashByTheLeastRetire(t *testing.T) {
	for _, threads := range []int{1, 2, 5, 16} {
		p := of(threads)
		if p.Retire--; p.Formed() {
			t.Fatalf("%+v: there is a lesser Retire", p)
		}
		p.Retire++
		d := drawn(threads)
		for left := range p.Retire {
			w, thread := newWorld(t, p), d.below(threads)
			w.scatter(&d)
			order := d.order(p.Nodes)
			nodes, n := order[:p.Retire], order[p.Retire]
			w.putRetired(thread, names(nodes...)...)
			w.hold(&d, nodes, (1<<p.Retire-1)&^(1<<left))
			if d.below(2) == 0 {
				is(w, w.stash(thread, n), n)
			} else {
				is(w, w.retire(thread, n), n)
			}
			w.freeIs(nodes[left])
			l := retire.List(p, w.m, mine, thread)
			is(w, len(l), p.Retire)
			is(w, l[p.Retire-1], n)
			is(w, slices.Contains(l, nodes[left]), false)
		}
	}
}

// P12.3.

// TestFreeIsAsItStands: of lists of no node, some and all, in an order that is drawn.
func TestFreeIsAsItStands(t *testing.T) {
	for _, p := range several() {
		w, d := newWorld(t, p), drawn(12)
		for many := range p.Nodes + 1 {
			w.freeIs()
			l := d.order(p.Nodes)[:many]
			w.putFree(l...)
			w.freeIs(l...)
			w.put(p.Head(), w.word(p.Head())|d.word()<<21)
			w.freeIs(l...)
			w.put(p.Head(), 0)
		}
	}
}

// TestFreeOfWhatIsNoList: one that leads back has all nodes at most; one that leads to
// a node that isn't there ends ahead of that.
func TestFreeOfWhatIsNoList(t *testing.T) {
	p := of(2)
	w := freshWorld(t, p)
	for n := range p.Nodes {
		w.put(p.Next(p.Nodes-1), uint64(n+1))
		w.countIs(p.Nodes)
	}
	for _, word := range noNames(p) {
		for n := range p.Nodes {
			w.put(p.Next(n), word)
			w.countIs(n + 1)
			w.put(p.Next(n), uint64(n+2))
		}
		w.put(p.Next(p.Nodes-1), 0)
	}
	w.put(p.Head(), uint64(p.Nodes+1))
	w.countIs(0)
}

// TestFreeOfEachRegion: it is the region's own.
func TestFreeOfEachRegion(t *testing.T) {
	w := freshWorld(t, of(1))
	w.grant(0, 0)
	w.m.Do(w.m.Cap(0), store(w.p.Head(), 3))
	w.m.Do(w.m.Cap(0), store(w.p.Next(2), 0))
	is(w, Free(w.p, w.m, 0), 1)
	is(w, Free(w.p, w.m, mine), w.p.Nodes-1)
}

// TestFreeBehindEach: a node that is granted, or retired, isn't free; one that is
// reclaimed is.
func TestFreeBehindEach(t *testing.T) {
	p := of(1)
	w := freshWorld(t, p)
	for n := range 4 {
		w.grant(0, 0)
		w.countIs(11 - n)
	}
	for n := range 4 {
		w.retire(0, n)
		w.countIs(8)
	}
	for n := 4; n < 12; n++ {
		w.grant(0, 0)
		w.countIs(11 - n)
	}
	w.putHazards(1, 3)
	w.stash(0, 4)
	w.countIs(2)
	is(w, w.grant(0, 0), Grant{Node: 1, Gen: 1})
	is(w, w.grant(0, 0), Grant{Node: 3, Gen: 1})
	w.countIs(0)
	is(w, w.grant(0, 0), Grant{Node: 4, Gen: 1})
	w.putHazards()
	is(w, w.grant(0, 0), Grant{Node: 0, Gen: 1})
	w.countIs(1)
	w.freeIs(2)
}

// TestOneHazardAtATime: what was retired while it was held isn't granted as long as
// it is.
func TestOneHazardAtATime(t *testing.T) {
	for _, p := range several() {
		w := freshWorld(t, p)
		for range p.Nodes {
			w.grant(0, 0)
		}
		for i := range hazards(p) {
			thread, n, gen := p.Threads-1, i%p.Nodes, i%(p.Gen+1)
			w.putState(n, gen, state.Live, state.Plain)
			prog.Run(hazard.Set(p, i/3, i%3, n), w.m, w.c, 9)
			is(w, w.retire(thread, n), n)
			is(w, w.grant(thread, 0), quota)
			is(w, w.grant(0, 0), quota)
			w.listIs(thread, n)
			prog.Run(hazard.Clear(p, i/3), w.m, w.c, 9)
			if gen == p.Gen {
				is(w, w.grant(thread, 0), quota)
				w.stateIs(n, gen, state.Gone, state.Plain)
			} else {
				is(w, w.grant(thread, 0), Grant{Node: n, Gen: gen + 1})
			}
			w.listIs(thread)
		}
	}
}
