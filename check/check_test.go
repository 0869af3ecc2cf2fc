package check

import (
	"math"
	"slices"
	"testing"

	"cubicle/api"
	"cubicle/free"
	"cubicle/hazard"
	"cubicle/mem"
	"cubicle/plan"
	"cubicle/prog"
	"cubicle/retire"
	"cubicle/state"
)

const ones = math.MaxUint64

// mine is the region that a test's programs work in; the memory has another one of
// the same plan, ahead of it, which none of them may touch.
const mine = 1

// What calls come to.
var (
	done      = api.Res{}
	notForm   = api.Res{E: api.ErrArg}
	badHandle = api.Res{E: api.ErrBadHandle}
	quota     = api.Res{E: api.ErrQuota}
)

// value is what comes to that word.
func value(v uint64) api.Res { return api.Res{V: v} }

// program is what each call of the package makes.
type program = prog.Prog[api.Res]

// of is the least plan of so many threads, with more nodes than they may retire. Of
// one thread: hazards from 1 on, a count at 4, retired from 5 on, nodes from 9 on. Of
// two threads: hazards from 1 on, a count at 7, retired from 8 on, a count at 15,
// retired from 16 on, nodes from 23 on.
func of(threads int) plan.Plan {
	return plan.Plan{Nodes: 4*threads + 8, Threads: threads, Retire: 3*threads + 1, Buckets: 1, Gen: 9}
}

// several are plans of several numbers of threads and nodes, with other things ahead
// of them.
func several() []plan.Plan {
	return []plan.Plan{
		of(1), of(2), of(3),
		{Nodes: 1, Threads: 1, Retire: 4, Buckets: 1, Gen: 1},
		{Nodes: 1, Threads: 1, Retire: 4, Domains: 2, Buckets: 1, Gen: 1},
		{Nodes: 2, Threads: 5, Retire: 16, Domains: 3, Buckets: 5, Gen: 2},
		{Nodes: 60, Threads: 2, Retire: 9, Domains: 7, Buckets: 7, Gen: api.MaxGen},
		{Nodes: 70, Threads: 16, Retire: 49, Domains: 1, Buckets: 2, Gen: 3},
	}
}

// tenants are the first and the last tenant, and some between them.
func tenants() []int { return []int{0, 1, 2, 31, 32, 62, 63} }

// world is a memory, with another word, not 0, at each place of both regions, but of
// the own one's head, hazards and counts, which are 0: so no node is free, held, or
// retired.
type world struct {
	t *testing.T
	p plan.Plan
	m *mem.Memory
	c mem.Cap
}

func newWorld(t *testing.T, p plan.Plan) *world {
	t.Helper()
	m, e := mem.New([]int{p.Size(), p.Size()})
	if e != api.OK {
		t.Fatal(p, e)
	}
	w := &world{t, p, m, m.Cap(mine)}
	for at := range p.Size() {
		w.put(at, 1<<40+uint64(at))
		m.Do(m.Cap(0), mem.Access{Op: mem.Store, At: at, A: 1<<41 + uint64(at)})
	}
	w.put(p.Head(), 0)
	w.putHazards()
	for thread := range p.Threads {
		w.put(p.Count(thread), 0)
	}
	return w
}

// freshWorld is a world whose nodes are all in the free list, in order, and FREE, with
// the Gen 0 and fields of 0. The head's tag is 0.
func freshWorld(t *testing.T, p plan.Plan) *world {
	t.Helper()
	w := newWorld(t, p)
	for at := p.State(0); at < p.Size(); at++ {
		w.put(at, 0)
	}
	if _, _, over := prog.Run(free.Fresh(p), w.m, w.c, 1<<20); !over {
		t.Fatalf("%+v: Fresh isn't over", p)
	}
	return w
}

// seat is the tenant's, and the thread's, in that world.
func (w *world) seat(tenant, thread int) Seat { return Seat{w.p, tenant, thread} }

// put stores the word at that place.
func (w *world) put(at int, word uint64) {
	w.t.Helper()
	if _, ok := w.m.Do(w.c, mem.Access{Op: mem.Store, At: at, A: word}); !ok {
		w.t.Fatalf("there is no place %d", at)
	}
}

// word is the word at that place of the own region.
func (w *world) word(at int) uint64 { return w.m.Peek(mine, at) }

// putHazards lets the first hazards, where all threads' are counted in a row, have
// these words, and the others 0.
func (w *world) putHazards(words ...uint64) {
	w.t.Helper()
	for i := range hazards(w.p) {
		w.put(w.p.Hazard(i/3, i%3), 0)
	}
	for i, word := range words {
		w.put(w.p.Hazard(i/3, i%3), word)
	}
}

// putRetired lets the thread have these retired words, so many as there are.
func (w *world) putRetired(thread int, words ...uint64) {
	w.t.Helper()
	w.put(w.p.Count(thread), uint64(len(words)))
	for i, word := range words {
		w.put(w.p.Retired(thread, i), word)
	}
}

// putFree lets these nodes be in the free list, in order, by the head's tag 0.
func (w *world) putFree(nodes ...int) {
	w.t.Helper()
	at := w.p.Head()
	for _, n := range nodes {
		w.put(at, uint64(n+1))
		at = w.p.Next(n)
	}
	w.put(at, 0)
}

// putState lets the node have that state.
func (w *world) putState(n, gen, mode, kind int) {
	w.t.Helper()
	w.put(w.p.State(n), stateWord(gen, mode, kind))
}

// stateWord is the word of a state, by the places of its bits.
func stateWord(gen, mode, kind int) uint64 {
	return uint64(gen) | uint64(mode)<<30 | uint64(kind)<<32
}

// named is the word of a handle, by the places of its bits.
func named(n, gen, tenant int) uint64 {
	return uint64(n) | uint64(gen)<<20 | uint64(tenant)<<50 | 42<<58
}

// names are the words that name the nodes.
func names(nodes ...int) []uint64 {
	var l []uint64
	for _, n := range nodes {
		l = append(l, uint64(n+1))
	}
	return l
}

// hazards is how many hazards the plan has.
func hazards(p plan.Plan) int { return 3 * p.Threads }

// words are all words of both regions.
func (w *world) words() []uint64 {
	l := make([]uint64, 0, 2*w.p.Size())
	for r := range w.m.Regions() {
		for at := range w.m.Size(r) {
			l = append(l, w.m.Peek(r, at))
		}
	}
	return l
}

// lay lets all the words of the own region be these.
func (w *world) lay(words []uint64) {
	w.t.Helper()
	for at := range w.p.Size() {
		w.put(at, words[w.m.Size(0)+at])
	}
}

// wordsAre asks whether the words are as they were, but for what these accesses of
// the own region did.
func (w *world) wordsAre(was []uint64, done ...mem.Access) {
	w.t.Helper()
	want := slices.Clone(was)
	for _, a := range done {
		word := &want[w.m.Size(0)+a.At]
		switch {
		case a.Op == mem.Store:
			*word = a.A
		case a.Op == mem.Swap && *word == a.A:
			*word = a.B
		}
	}
	if got := w.words(); !slices.Equal(got, want) {
		w.t.Errorf("%+v: the words are %v; want %v", w.p, got, want)
	}
}

// listIs asks whether the thread's retired nodes are these, in order.
func (w *world) listIs(thread int, want ...int) {
	w.t.Helper()
	if got := retire.List(w.p, w.m, mine, thread); !slices.Equal(got, want) {
		w.t.Errorf("%+v: the thread %d retired %v; want %v", w.p, thread, got, want)
	}
}

// freeIs asks whether these nodes are in the free list, in order.
func (w *world) freeIs(want ...int) {
	w.t.Helper()
	if got := free.List(w.p, w.m, mine); !slices.Equal(got, want) {
		w.t.Errorf("%+v: the free list is %v; want %v", w.p, got, want)
	}
}

// stateIs asks whether the node's state is that.
func (w *world) stateIs(n, gen, mode, kind int) {
	w.t.Helper()
	if got, want := w.word(w.p.State(n)), stateWord(gen, mode, kind); got != want {
		w.t.Errorf("%+v: the node %d's state is %#x; want %#x", w.p, n, got, want)
	}
}

func load(at int) mem.Access            { return mem.Access{Op: mem.Load, At: at} }
func store(at int, w uint64) mem.Access { return mem.Access{Op: mem.Store, At: at, A: w} }
func trySwap(at int, was, w uint64) mem.Access {
	return mem.Access{Op: mem.Swap, At: at, A: was, B: w}
}

// loads are loads of the places from the one to the other.
func loads(first, last int) []mem.Access {
	var l []mem.Access
	for at := first; at <= last; at++ {
		l = append(l, load(at))
	}
	return l
}

// row is all these accesses, one list behind the other.
func row(l ...[]mem.Access) []mem.Access { return slices.Concat(l...) }

// these is a list of the accesses.
func these(l ...mem.Access) []mem.Access { return l }

// accesses asks whether the program's next accesses are these, does them, and is the
// program that goes on.
func (w *world) accesses(q program, want ...mem.Access) program {
	w.t.Helper()
	for i, a := range want {
		if got, ok := q.Access(); got != a || !ok {
			w.t.Fatalf("%+v: the access %d is %+v, %v; want %+v", w.p, i, got, ok, a)
		}
		if r, over := q.Over(); over {
			w.t.Fatalf("%+v: over, with %v, ahead of the access %d", w.p, r, i)
		}
		count := w.m.Count()
		next, ok := q.Step(w.m, w.c)
		if !ok || w.m.Count() != count+1 {
			w.t.Fatalf("%+v: the step %d: %v, %d accesses", w.p, i, ok, w.m.Count()-count)
		}
		q = next
	}
	return q
}

// comesTo asks whether the program is over, with that.
func (w *world) comesTo(q program, want api.Res) {
	w.t.Helper()
	if r, over := q.Over(); r != want || !over {
		w.t.Errorf("%+v: it comes to %+v, over %v; want %+v", w.p, r, over, want)
	}
	if a, ok := q.Access(); ok {
		w.t.Errorf("%+v: it is over, and has the access %+v", w.p, a)
	}
}

// isDone asks whether the program, alone, does these accesses, comes to that, and
// changes no other word.
func (w *world) isDone(q program, want api.Res, l ...mem.Access) {
	w.t.Helper()
	was := w.words()
	w.comesTo(w.accesses(q, l...), want)
	w.wordsAre(was, l...)
}

// is asks whether the two are the same.
func is[R comparable](w *world, got, want R) {
	w.t.Helper()
	if got != want {
		w.t.Errorf("%+v: %+v; want %+v", w.p, got, want)
	}
}

// chapter does what the chapter's words say, and those of the chapters that it calls,
// an access behind the other: do is what an access tells.
type chapter struct {
	p  plan.Plan
	do func(mem.Access) uint64
}

func (x chapter) load(at int) uint64     { return x.do(load(at)) }
func (x chapter) store(at int, w uint64) { x.do(store(at, w)) }

// gen is the Gen that the node's state has.
func (x chapter) gen(n int) uint64 {
	word := x.load(x.p.State(n))
	if word>>34 != 0 || word>>32 == 3 {
		return 0
	}
	return word & (1<<30 - 1)
}

func (x chapter) pop() int {
	for {
		head := x.load(x.p.Head())
		first := head & (1<<21 - 1)
		if first == 0 {
			return api.None
		}
		next := x.load(x.p.Next(int(first-1))) & (1<<21 - 1)
		if x.do(trySwap(x.p.Head(), head, (head>>21+1)<<21|next)) == head {
			return int(first - 1)
		}
	}
}

func (x chapter) push(n int) {
	for {
		head := x.load(x.p.Head())
		x.store(x.p.Next(n), head&(1<<21-1))
		if x.do(trySwap(x.p.Head(), head, (head>>21+1)<<21|uint64(n+1))) == head {
			return
		}
	}
}

func (x chapter) put(thread, n int) bool {
	count := x.load(x.p.Count(thread))
	if count >= uint64(x.p.Retire) {
		return false
	}
	x.store(x.p.Retired(thread, int(count)), uint64(n)+1)
	x.store(x.p.Count(thread), count+1)
	return true
}

func (x chapter) reclaim(n int) {
	for f := range 3 {
		x.store(x.p.Field(n, f), 0)
	}
	gen := x.gen(n)
	if gen >= uint64(x.p.Gen) {
		x.store(x.p.State(n), gen|3<<30)
		return
	}
	x.store(x.p.State(n), gen+1)
	x.push(n)
}

func (x chapter) held(word uint64) bool {
	for i := range hazards(x.p) {
		if x.load(x.p.Hazard(i/3, i%3)) == word {
			return true
		}
	}
	return false
}

func (x chapter) scan(thread int) {
	left := int(min(x.load(x.p.Count(thread)), uint64(x.p.Retire)))
	for i := left - 1; i >= 0; i-- {
		word := x.load(x.p.Retired(thread, i))
		if word == 0 || word > uint64(x.p.Nodes) || x.held(word) {
			continue
		}
		left--
		if i != left {
			x.store(x.p.Retired(thread, i), x.load(x.p.Retired(thread, left)))
		}
		x.store(x.p.Count(thread), uint64(left))
		x.reclaim(int(word - 1))
	}
}

func (x chapter) grant(s Seat) api.Res {
	n := x.pop()
	if n == api.None {
		x.scan(s.Thread)
		n = x.pop()
	}
	if n == api.None {
		return quota
	}
	gen := x.gen(n)
	x.store(x.p.State(n), gen|1<<30)
	return value(named(n, int(gen), s.Tenant))
}

// node is the node, and the Gen, of the handle whose word w is, if it is the tenant's,
// and of a node of the plan's.
func (x chapter) node(s Seat, w uint64) (n int, gen uint64, ok bool) {
	n, gen = int(w&(1<<20-1)), w>>20&(1<<30-1)
	return n, gen, w>>50 == uint64(42<<8|s.Tenant) && n < x.p.Nodes
}

func (x chapter) good(n int, gen uint64) bool {
	return x.load(x.p.State(n)) == gen|1<<30
}

func (x chapter) drop(s Seat, w uint64) api.Res {
	n, gen, ok := x.node(s, w)
	if !ok || !x.good(n, gen) {
		return badHandle
	}
	if x.do(trySwap(x.p.State(n), gen|1<<30, gen|2<<30)) != gen|1<<30 {
		return badHandle
	}
	if !x.put(s.Thread, n) {
		x.scan(s.Thread)
		x.put(s.Thread, n)
	}
	return done
}

func (x chapter) look(s Seat, w uint64, f int, a mem.Access) api.Res {
	n, gen, ok := x.node(s, w)
	if !ok || !x.good(n, gen) {
		return badHandle
	}
	x.store(x.p.Hazard(s.Thread, 0), uint64(n)+1)
	if !x.good(n, gen) {
		x.store(x.p.Hazard(s.Thread, 0), 0)
		return badHandle
	}
	a.At = x.p.Field(n, f)
	v := x.do(a)
	x.store(x.p.Hazard(s.Thread, 0), 0)
	switch {
	case a.Op == mem.Load:
		return value(v)
	case a.Op == mem.Swap && v == a.A:
		return value(1)
	}
	return done
}

// call is a program, and what it does by the chapter's words.
type call struct {
	q     program
	words func(chapter) api.Res
}

func callNew(s Seat) call {
	return call{New(s), func(x chapter) api.Res { return x.grant(s) }}
}

func callDrop(s Seat, w uint64) call {
	return call{Drop(s, w), func(x chapter) api.Res { return x.drop(s, w) }}
}

func callRead(s Seat, w uint64, f int) call {
	return call{Read(s, w, f), func(x chapter) api.Res { return x.look(s, w, f, load(0)) }}
}

func callWrite(s Seat, w uint64, f int, v uint64) call {
	return call{Write(s, w, f, v), func(x chapter) api.Res { return x.look(s, w, f, store(0, v)) }}
}

func callSwap(s Seat, w uint64, f int, was, v uint64) call {
	return call{Swap(s, w, f, was, v), func(x chapter) api.Res { return x.look(s, w, f, trySwap(0, was, v)) }}
}

// calls are of each call that is given a word, and of each field.
func calls(s Seat, w uint64) []call {
	l := []call{callDrop(s, w)}
	for f := range 3 {
		l = append(l, callRead(s, w, f), callWrite(s, w, f, 7), callSwap(s, w, f, 0, 8), callSwap(s, w, f, 7, 9))
	}
	return l
}

// did is an access that a program did, and what it was told.
type did struct {
	a    mem.Access
	told uint64
}

// steps runs the program to its end, and tells what it did, and the program that is
// over then.
func (w *world) steps(q program) ([]did, program) {
	w.t.Helper()
	var l []did
	for {
		a, ok := q.Access()
		if !ok {
			return l, q
		}
		told := w.word(a.At)
		next, ok := q.Step(w.m, w.c)
		if !ok {
			w.t.Fatalf("%+v: the step %d, %+v, is refused", w.p, len(l), a)
		}
		l, q = append(l, did{a, told}), next
	}
}

// follows asks whether the chapter, told the same, does the same, and is what it comes
// to.
func (w *world) follows(l []did, words func(chapter) api.Res) api.Res {
	w.t.Helper()
	i := 0
	r := words(chapter{w.p, func(a mem.Access) uint64 {
		if i == len(l) || l[i].a != a {
			w.t.Fatalf("%+v: the access %d must be %+v; it did %+v", w.p, i, a, l)
		}
		i++
		return l[i-1].told
	}})
	if i != len(l) {
		w.t.Fatalf("%+v: it must do %d accesses; it did %+v", w.p, i, l)
	}
	return r
}

// does asks whether the program, alone, does what the chapter's words do, and changes
// no other word; it is what it comes to.
func (w *world) does(x call) api.Res {
	w.t.Helper()
	was := w.words()
	l, q := w.steps(x.q)
	r := w.follows(l, x.words)
	w.comesTo(q, r)
	var done []mem.Access
	for _, d := range l {
		done = append(done, d.a)
	}
	w.wordsAre(was, done...)
	return r
}

// drawn is a fixed row of numbers that look as if they were drawn.
type drawn uint64

func (d *drawn) below(n int) int {
	*d = *d*6364136223846793005 + 1442695040888963407
	return int(uint64(*d) >> 33 % uint64(n))
}

func (d *drawn) word() uint64 {
	return uint64(d.below(1<<31))<<33 ^ uint64(d.below(1<<31))<<10 ^ uint64(d.below(1<<31))
}

// order is the first so many numbers from 0 on, in an order that is drawn.
func (d *drawn) order(many int) []int {
	l := make([]int, many)
	for i := range l {
		l[i] = i
		k := d.below(i + 1)
		l[i], l[k] = l[k], l[i]
	}
	return l
}

// numbers are those from 0 on, below that.
func numbers(many int) []int {
	l := make([]int, many)
	for i := range l {
		l[i] = i
	}
	return l
}

// not are numbers of things that aren't there, if there are so many.
func not(many int) []int {
	return []int{-1, -2, many, many + 1, 1 << 32, 1<<32 + 1, math.MinInt, math.MinInt + 1, math.MaxInt - 1, math.MaxInt}
}

// noStates are words that are no state's.
func noStates() []uint64 {
	return []uint64{3 << 32, 3<<32 | 9, 3<<32 | 2<<30 | 8, 3<<32 | 3<<30 | api.MaxGen, 1 << 34, 1<<34 | 9, 1<<34 | 1<<32, 1 << 35,
		1 << 40, 1 << 62, 1 << 63, 1<<63 | 9, 1<<63 | 2<<30 | 5, ones, ones - 1, ones - 1<<34 + 1}
}

// gens are Gens that a state may have, up to the greatest one.
func gens(p plan.Plan) []int {
	l := []int{0, 1, p.Gen / 2, p.Gen - 1, p.Gen, p.Gen + 1, 2 * p.Gen, 1<<29 - 1, 1 << 29, api.MaxGen - 1, api.MaxGen}
	return slices.DeleteFunc(l, func(gen int) bool { return gen > api.MaxGen })
}

// otherStates are words by which the node of a handle of that Gen isn't good: states
// of other modes, kinds and Gens, words that are no state's, and all that differ from
// the good one in one bit.
func otherStates(gen int) []uint64 {
	l := noStates()
	for mode := range 4 {
		for kind := range 4 {
			for _, g := range []int{gen - 1, gen, gen + 1, 0, api.MaxGen} {
				l = append(l, stateWord(min(max(g, 0), api.MaxGen), mode, kind))
			}
		}
	}
	good := stateWord(gen, state.Live, state.Plain)
	for bit := range 64 {
		l = append(l, good^1<<bit)
	}
	return slices.DeleteFunc(l, func(word uint64) bool { return word == good })
}

// TestExample: the chapter's.
func TestExample(t *testing.T) {
	w := freshWorld(t, of(1))
	s := w.seat(0, 0)
	run := func(q program) api.Res {
		r, _, over := prog.Run(q, w.m, w.c, 99)
		is(w, over, true)
		return r
	}
	r := run(New(s))
	is(w, r, value(named(0, 0, 0)))
	is(w, run(Write(s, r.V, 1, 7)), done)
	is(w, run(Read(s, r.V, 1)), value(7))
	is(w, run(Drop(s, r.V)), done)
	is(w, run(Read(s, r.V, 1)), badHandle)
}

// P13.1.

// notFormed are plans that aren't, each by one number at least.
func notFormed() []plan.Plan {
	l := []plan.Plan{
		{}, {Nodes: -1, Threads: -1, Retire: -1, Domains: -1, Buckets: -1, Gen: -1},
		{Nodes: 3, Threads: 0, Retire: 4, Buckets: 1, Gen: 9},
		{Nodes: 3, Threads: 1, Retire: 3, Buckets: 1, Gen: 9},
		{Nodes: 3, Threads: 1, Retire: 4, Buckets: 0, Gen: 9},
		{Nodes: 3, Threads: 1, Retire: 4, Buckets: 1, Gen: 0},
		{Nodes: 3, Threads: 1, Retire: 4, Domains: 65, Buckets: 1, Gen: 9},
		{Nodes: 3, Threads: 17, Retire: 52, Buckets: 1, Gen: 9},
	}
	for _, n := range []int{math.MinInt, math.MinInt + 1, -2, -1, 0, 1 << 32, math.MaxInt/3 + 1, math.MaxInt - 1, math.MaxInt} {
		l = append(l, plan.Plan{Nodes: n, Threads: 1, Retire: 4, Buckets: 1, Gen: 9},
			plan.Plan{Nodes: 3, Threads: n, Retire: 49, Buckets: 1, Gen: 9},
			plan.Plan{Nodes: 3, Threads: 1, Retire: n, Buckets: 1, Gen: 9})
	}
	return l
}

// seatsNotFormed are seats of that plan that aren't, by the tenant, the thread, or
// both.
func seatsNotFormed(p plan.Plan) []Seat {
	var l []Seat
	for _, tenant := range append(not(64), tenants()...) {
		for _, thread := range append(not(p.Threads), 0, p.Threads-1) {
			if tenant < 0 || tenant > 63 || thread < 0 || thread >= p.Threads {
				l = append(l, Seat{p, tenant, thread})
			}
		}
	}
	return l
}

// TestFormed: seats of each tenant and each thread of several plans.
func TestFormed(t *testing.T) {
	for _, p := range several() {
		for tenant := range 64 {
			for thread := range p.Threads {
				if s := (Seat{p, tenant, thread}); !s.Formed() {
					t.Errorf("%+v isn't formed", s)
				}
			}
		}
	}
}

// TestNotFormed: seats of plans that aren't formed, of tenants that there aren't, and
// of threads that the plan hasn't.
func TestNotFormed(t *testing.T) {
	for _, p := range several() {
		for _, s := range seatsNotFormed(p) {
			if s.Formed() {
				t.Errorf("%+v is formed", s)
			}
		}
	}
	for _, p := range notFormed() {
		for _, tenant := range append(not(64), tenants()...) {
			for _, thread := range append(not(p.Threads), 0, 1, p.Threads-1, p.Threads-2) {
				if s := (Seat{p, tenant, thread}); s.Formed() {
					t.Errorf("%+v is formed", s)
				}
			}
		}
	}
	if (Seat{}).Formed() {
		t.Error("a zero seat is formed")
	}
}

// atOnce asks whether the program is over without a step, with that.
func (w *world) atOnce(q program, want api.Res) {
	w.t.Helper()
	count := w.m.Count()
	w.comesTo(q, want)
	next, ok := q.Step(w.m, w.c)
	is(w, ok, false)
	w.comesTo(next, want)
	r, steps, over := prog.Run(q, w.m, w.c, math.MaxInt)
	if r != want || steps != 0 || !over || w.m.Count() != count {
		w.t.Errorf("%+v: Run is %+v, %d, %v", w.p, r, steps, over)
	}
}

// argWords are words that stand beside what isn't formed: a good one of that tenant,
// and others.
func argWords(tenant int) []uint64 {
	return []uint64{named(0, 0, tenant&63), 0, 1, 42 << 58, ones, named(0, 1, tenant&63), named(api.MaxNodes-1, 0, tenant&63)}
}

// TestSeatsNotFormedAreToldAtOnce: by ErrArg, whatever the word and the field are.
func TestSeatsNotFormedAreToldAtOnce(t *testing.T) {
	w := freshWorld(t, of(2))
	w.putState(0, 0, state.Live, state.Plain)
	words := w.words()
	l := slices.Concat(seatsNotFormed(of(2)), seatsNotFormed(of(16)), []Seat{{}})
	for _, p := range notFormed() {
		l = append(l, Seat{p, 0, 0}, Seat{p, 63, p.Threads - 1}, Seat{p, 64, -1})
	}
	for _, s := range l {
		w.atOnce(New(s), notForm)
		for _, word := range argWords(s.Tenant) {
			w.atOnce(Drop(s, word), notForm)
			for _, f := range append(not(3), 0, 1, 2) {
				w.atOnce(Read(s, word, f), notForm)
				w.atOnce(Write(s, word, f, 7), notForm)
				w.atOnce(Swap(s, word, f, 0, 7), notForm)
			}
		}
	}
	w.wordsAre(words)
}

// TestFieldsThatAreNotThere: by ErrArg, at once, whatever the word is.
func TestFieldsThatAreNotThere(t *testing.T) {
	for _, p := range several() {
		w := freshWorld(t, p)
		w.putState(0, 0, state.Live, state.Plain)
		words := w.words()
		for _, tenant := range tenants() {
			s := w.seat(tenant, p.Threads-1)
			for _, word := range argWords(tenant) {
				for _, f := range append(not(3), 4, 5, 1<<31, 1<<31+1) {
					w.atOnce(Read(s, word, f), notForm)
					w.atOnce(Write(s, word, f, 7), notForm)
					w.atOnce(Swap(s, word, f, 0, 7), notForm)
				}
			}
		}
		w.wordsAre(words)
	}
}

// P13.2: New.

// TestNewByHand is a plan of one thread, whose accesses are told by numbers.
func TestNewByHand(t *testing.T) {
	w := freshWorld(t, of(1))
	w.putState(2, 7, state.Free, state.Plain)
	s := w.seat(5, 0)
	w.isDone(New(s), value(5<<50|42<<58), load(0), load(10), trySwap(0, 1, 2|1<<21), load(9), store(9, 1<<30))
	w.isDone(New(s), value(1|5<<50|42<<58), load(0), load(15), trySwap(0, 2|1<<21, 3|2<<21), load(14), store(14, 1<<30))
	w.isDone(New(s), value(2|7<<20|5<<50|42<<58), load(0), load(20), trySwap(0, 3|2<<21, 4|3<<21), load(19), store(19, 7|1<<30))
	w.freeIs(numbers(12)[3:]...)
}

// TestNewOfTheFirstHandle: the node 0, of the Gen 0, of the tenant 0.
func TestNewOfTheFirstHandle(t *testing.T) {
	w := freshWorld(t, plan.Plan{Nodes: 1, Threads: 1, Retire: 4, Buckets: 1, Gen: 1})
	is(w, w.does(callNew(w.seat(0, 0))), value(12105675798371893248))
}

// TestNewTillThereIsNone: each node once, of each tenant, by each thread in turn; then
// there is none, again and again.
func TestNewTillThereIsNone(t *testing.T) {
	for _, p := range several() {
		w := freshWorld(t, p)
		for n := range p.Nodes {
			tenant := tenants()[n%len(tenants())]
			is(w, w.does(callNew(w.seat(tenant, n%p.Threads))), value(named(n, 0, tenant)))
			w.stateIs(n, 0, state.Live, state.Plain)
			w.freeIs(numbers(p.Nodes)[n+1:]...)
		}
		for i := range 2 * p.Threads {
			is(w, w.does(callNew(w.seat(i, i%p.Threads))), quota)
		}
	}
}

// TestNewOfEachState: the handle's Gen is the state's, whatever that was else.
func TestNewOfEachState(t *testing.T) {
	for _, p := range several() {
		w, n := newWorld(t, p), p.Nodes-1
		for was := range 4 * 3 {
			for _, gen := range gens(p) {
				for _, tenant := range tenants() {
					w.putFree(n)
					w.putState(n, gen, was/3, was%3)
					is(w, w.does(callNew(w.seat(tenant, p.Threads-1))), value(named(n, gen, tenant)))
					w.stateIs(n, gen, state.Live, state.Plain)
					w.freeIs()
				}
			}
		}
		for _, word := range noStates() {
			w.putFree(n)
			w.put(p.State(n), word)
			is(w, w.does(callNew(w.seat(63, 0))), value(named(n, 0, 63)))
			w.stateIs(n, 0, state.Live, state.Plain)
		}
	}
}

// TestNewWithoutANode: where the thread retired none, whatever others did.
func TestNewWithoutANode(t *testing.T) {
	for _, p := range several() {
		for _, thread := range []int{0, p.Threads - 1} {
			w := newWorld(t, p)
			w.put(0, 9<<21)
			for other := range p.Threads {
				if other != thread {
					w.putRetired(other, 1)
				}
			}
			w.isDone(New(w.seat(7, thread)), quota, load(0), load(p.Count(thread)), load(0))
		}
	}
}

// reclaimByHand is what Reclaim of a node, of a plan whose nodes begin there, does,
// that has the state Gen 0, where the head is that.
func reclaimByHand(nodes, n int, head uint64) []mem.Access {
	s := nodes + 5*n
	return these(store(s+2, 0), store(s+3, 0), store(s+4, 0), load(s), store(s, 1),
		load(0), store(s+1, head&(1<<21-1)), trySwap(0, head, uint64(n+1)|(head>>21+1)<<21))
}

// TestNewScansByHand is a plan of two threads, whose accesses are told by numbers: a
// retired node is granted, if none of the hazards holds it.
func TestNewScansByHand(t *testing.T) {
	w := newWorld(t, of(2))
	w.putState(3, 0, state.Retired, state.Plain)
	w.putState(5, 0, state.Retired, state.Plain)
	w.putRetired(0, 4, 6)
	w.putRetired(1, 3)
	w.putHazards(0, 0, 0, 6)
	s := w.seat(63, 0)
	w.isDone(New(s), value(named(3, 1, 63)), row(
		these(load(0), load(7), load(9)), loads(1, 4), these(load(8)), loads(1, 6),
		these(load(9), store(8, 6), store(7, 1)), reclaimByHand(23, 3, 0),
		these(load(0), load(39), trySwap(0, 4|1<<21, 2<<21), load(38), store(38, 1|1<<30)),
	)...)
	w.isDone(New(s), quota, row(these(load(0), load(7), load(8)), loads(1, 4), these(load(0)))...)
	w.listIs(0, 5)
	w.listIs(1, 2)
	w.freeIs()
}

// TestNewBehindAScan: of so many retired nodes, some of which are held, by each of
// several plans, till there is none: what isn't held is granted, by the next Gen.
func TestNewBehindAScan(t *testing.T) {
	for _, p := range several() {
		d := drawn(p.Size())
		for many := range min(p.Nodes, p.Retire) + 1 {
			w := newWorld(t, p)
			nodes := d.order(p.Nodes)[:many]
			for _, n := range nodes {
				w.putState(n, n%p.Gen, state.Retired, state.Plain)
			}
			s := w.seat(d.below(64), d.below(p.Threads))
			w.putRetired(s.Thread, names(nodes...)...)
			held := nodes[:d.below(min(many, hazards(p))+1)]
			w.putHazards(names(held...)...)
			for _, n := range nodes[len(held):] {
				r := w.does(callNew(s))
				if r.E != api.OK || !slices.Contains(nodes[len(held):], int(r.V&(1<<20-1))) {
					t.Errorf("%+v: %+v; held are %v", p, r, held)
				}
				w.stateIs(n, n%p.Gen+1, int(w.word(p.State(n))>>30&3), state.Plain)
			}
			is(w, w.does(callNew(s)), quota)
		}
	}
}

// P13.2: Drop.

// TestDropByHand is a plan of two threads, whose accesses are told by numbers.
func TestDropByHand(t *testing.T) {
	w := newWorld(t, of(2))
	w.putState(4, 6, state.Live, state.Plain)
	w.putState(0, 0, state.Live, state.Plain)
	w.putState(15, api.MaxGen, state.Live, state.Plain)
	w.isDone(Drop(w.seat(3, 0), named(4, 6, 3)), done,
		load(43), trySwap(43, 6|1<<30, 6|2<<30), load(7), store(8, 5), store(7, 1))
	w.isDone(Drop(w.seat(0, 1), named(0, 0, 0)), done,
		load(23), trySwap(23, 1<<30, 2<<30), load(15), store(16, 1), store(15, 1))
	w.isDone(Drop(w.seat(63, 0), named(15, api.MaxGen, 63)), done,
		load(98), trySwap(98, 1<<31-1, 1<<31|(1<<30-1)), load(7), store(9, 16), store(7, 2))
	w.listIs(0, 4, 15)
	w.listIs(1, 0)
	w.freeIs()
}

// fullWorld is a world of one thread, which retired the nodes 3, 5, 7 and 9: there is
// no room. All nodes are RETIRED, but for the node 2, which is LIVE, of the Gen 8.
func fullWorld(t *testing.T) *world {
	w := newWorld(t, of(1))
	for n := range w.p.Nodes {
		w.putState(n, 0, state.Retired, state.Plain)
	}
	w.putState(2, 8, state.Live, state.Plain)
	w.putRetired(0, 4, 6, 8, 10)
	return w
}

// TestDropWithoutRoomByHand is a plan of one thread, whose accesses are told by
// numbers: by hazards that hold none of the retired nodes, and some; and where none
// can be reclaimed.
func TestDropWithoutRoomByHand(t *testing.T) {
	asked, begin := loads(1, 3), these(load(19), trySwap(19, 8|1<<30, 8|2<<30), load(4), load(4))
	w := fullWorld(t)
	w.isDone(Drop(w.seat(9, 0), named(2, 8, 9)), done, row(begin,
		these(load(8)), asked, these(store(4, 3)), reclaimByHand(9, 9, 0),
		these(load(7)), asked, these(store(4, 2)), reclaimByHand(9, 7, 10|1<<21),
		these(load(6)), asked, these(store(4, 1)), reclaimByHand(9, 5, 8|2<<21),
		these(load(5)), asked, these(store(4, 0)), reclaimByHand(9, 3, 6|3<<21),
		these(load(4), store(5, 3), store(4, 1)),
	)...)
	w.listIs(0, 2)
	w.freeIs(3, 5, 7, 9)

	w = fullWorld(t)
	w.putHazards(4, 10, 8)
	w.isDone(Drop(w.seat(9, 0), named(2, 8, 9)), done, row(begin,
		these(load(8)), asked[:2], these(load(7)), asked,
		these(load(6)), asked, these(load(8), store(6, 10), store(4, 3)), reclaimByHand(9, 5, 0),
		these(load(5)), asked[:1],
		these(load(4), store(8, 3), store(4, 4)),
	)...)
	w.listIs(0, 3, 9, 7, 2)
	w.freeIs(5)

	w = fullWorld(t)
	w.putRetired(0, 0, 13, 1<<32, ones)
	w.isDone(Drop(w.seat(9, 0), named(2, 8, 9)), done, row(begin, these(load(8), load(7), load(6), load(5), load(4)))...)
	w.stateIs(2, 8, state.Retired, state.Plain)
	w.listIs(0)
	w.freeIs()
}

// TestDropOfAnotherOne: where the state is another one at the swap: it is bad, and
// nothing is changed.
func TestDropOfAnotherOne(t *testing.T) {
	for _, p := range several() {
		w, n := newWorld(t, p), p.Nodes-1
		at := p.State(n)
		for _, gen := range gens(p) {
			good, s := stateWord(gen, state.Live, state.Plain), w.seat(gen&63, p.Threads-1)
			w.put(at, good)
			q := w.accesses(Drop(s, named(n, gen, gen&63)), load(at))
			for _, other := range otherStates(gen) {
				w.put(at, other)
				w.isDone(q, badHandle, trySwap(at, good, stateWord(gen, state.Retired, state.Plain)))
				is(w, w.word(at), other)
			}
		}
	}
}

// TestDropTwice: the second one is told that the word is bad, whoever drops it.
func TestDropTwice(t *testing.T) {
	for _, p := range several() {
		w := freshWorld(t, p)
		for i := range 2 * p.Nodes * min(p.Gen, 4) {
			s, other := w.seat(i&63, i%p.Threads), w.seat(i&63, (i+1)%p.Threads)
			r := w.does(callNew(s))
			if r == quota {
				break
			}
			is(w, r.E, api.OK)
			is(w, w.does(callDrop(s, r.V)), done)
			for _, again := range []Seat{s, other, s} {
				w.isDone(Drop(again, r.V), badHandle, load(p.State(int(r.V&(1<<20-1)))))
			}
		}
	}
}

// P13.3.

// TestLookByHand is a plan of two threads, whose accesses are told by numbers: of each
// field.
func TestLookByHand(t *testing.T) {
	w := newWorld(t, of(2))
	w.putState(4, 6, state.Live, state.Plain)
	w.putState(15, api.MaxGen, state.Live, state.Plain)
	w.put(45, 11)
	a, b := w.seat(3, 0), w.seat(3, 1)
	h := named(4, 6, 3)
	w.isDone(Read(a, h, 0), value(11), load(43), store(1, 5), load(43), load(45), store(1, 0))
	w.isDone(Read(b, h, 0), value(11), load(43), store(4, 5), load(43), load(45), store(4, 0))
	w.isDone(Read(a, h, 1), value(1<<40+46), load(43), store(1, 5), load(43), load(46), store(1, 0))
	w.isDone(Read(a, h, 2), value(1<<40+47), load(43), store(1, 5), load(43), load(47), store(1, 0))
	w.isDone(Write(a, h, 0, 12), done, load(43), store(1, 5), load(43), store(45, 12), store(1, 0))
	w.isDone(Write(b, h, 1, 0), done, load(43), store(4, 5), load(43), store(46, 0), store(4, 0))
	w.isDone(Write(a, h, 2, ones), done, load(43), store(1, 5), load(43), store(47, ones), store(1, 0))
	w.isDone(Swap(a, h, 0, 12, 13), value(1), load(43), store(1, 5), load(43), trySwap(45, 12, 13), store(1, 0))
	w.isDone(Swap(b, h, 0, 12, 13), done, load(43), store(4, 5), load(43), trySwap(45, 12, 13), store(4, 0))
	w.isDone(Swap(b, h, 1, 0, ones), value(1), load(43), store(4, 5), load(43), trySwap(46, 0, ones), store(4, 0))
	w.isDone(Swap(b, h, 2, 0, 1), done, load(43), store(4, 5), load(43), trySwap(47, 0, 1), store(4, 0))
	w.isDone(Swap(b, h, 2, ones, 0), value(1), load(43), store(4, 5), load(43), trySwap(47, ones, 0), store(4, 0))
	for place, want := range map[int]uint64{45: 13, 46: ones, 47: 0} {
		is(w, w.word(place), want)
	}
	last := named(15, api.MaxGen, 63)
	w.isDone(Read(w.seat(63, 1), last, 2), value(1<<40+102), load(98), store(4, 16), load(98), load(102), store(4, 0))
}

// values are words from 0 to the greatest one.
func values() []uint64 {
	l := []uint64{0, 1, 2, 7, 1<<31 - 1, 1 << 31, 1<<32 - 1, 1 << 32, 1<<63 - 1, 1 << 63, ones - 1, ones}
	return append(l, named(0, 0, 0))
}

// TestValues: of each field, from each value to each other one, by the first and the
// last tenant, thread and node; other fields and nodes stay as they are.
func TestValues(t *testing.T) {
	for _, p := range several() {
		w := newWorld(t, p)
		for _, s := range []Seat{w.seat(0, p.Threads-1), w.seat(63, 0)} {
			for _, n := range []int{0, p.Nodes - 1} {
				w.putState(n, p.Gen, state.Live, state.Plain)
				h := named(n, p.Gen, s.Tenant)
				for f := range 3 {
					w.takesValues(s, h, f)
				}
			}
		}
	}
}

// takesValues asks whether the field takes, and tells, each value.
func (w *world) takesValues(s Seat, h uint64, f int) {
	w.t.Helper()
	for _, v := range values() {
		for _, other := range values() {
			is(w, w.does(callWrite(s, h, f, v)), done)
			is(w, w.does(callRead(s, h, f)), value(v))
			if v != other {
				is(w, w.does(callSwap(s, h, f, other, 5)), done)
				is(w, w.does(callRead(s, h, f)), value(v))
			}
			is(w, w.does(callSwap(s, h, f, v, other)), value(1))
			is(w, w.does(callRead(s, h, f)), value(other))
		}
	}
}

// TestGenOfEachNode: what is of the state's Gen is good, up to the greatest one, and
// of no other; all threads of the tenant see the same.
func TestGenOfEachNode(t *testing.T) {
	for _, p := range several() {
		w, n := newWorld(t, p), p.Nodes-1
		for _, gen := range gens(p) {
			w.putState(n, gen, state.Live, state.Plain)
			for _, other := range gens(p) {
				for thread := range p.Threads {
					s := w.seat(gen&63, thread)
					want := badHandle
					if gen == other {
						want = value(uint64(gen))
						is(w, w.does(callWrite(s, named(n, other, gen&63), 2, uint64(gen))), done)
					}
					is(w, w.does(callRead(s, named(n, other, gen&63), 2)), want)
				}
			}
		}
	}
}

// TestHazardsAsTheyWere: whatever the thread's hazard 0 named ahead of a look, it
// names none behind it; others stay as they were. A Drop, and a word that is bad at
// the first load, leave all as they were.
func TestHazardsAsTheyWere(t *testing.T) {
	p := of(2)
	w := newWorld(t, p)
	for _, words := range [][]uint64{{5, 5, 5, 5, 5, 5}, {1, 2, 3, 4, 6, 7}, {ones, 0, ones, 0, ones, 0}, {0, 9, 9, 99, 9, 9}} {
		for _, x := range calls(w.seat(1, 1), named(4, 2, 1)) {
			w.putState(4, 2, state.Live, state.Plain)
			w.putHazards(words...)
			is(w, w.does(x).E, api.OK)
			want := slices.Clone(words)
			if w.word(p.State(4)) == stateWord(2, state.Live, state.Plain) {
				want[3] = 0
			}
			w.hazardsAre(want...)
			w.putHazards(words...)
			w.putState(4, 3, state.Live, state.Plain)
			is(w, w.does(x), badHandle)
			w.hazardsAre(words...)
		}
	}
}

// hazardsAre asks whether the hazards have these words.
func (w *world) hazardsAre(want ...uint64) {
	w.t.Helper()
	for i, word := range want {
		is(w, w.word(w.p.Hazard(i/3, i%3)), word)
	}
}

// Words that aren't good (P13.2 to P13.4).

// badBehind asks whether each call by that word comes to ErrBadHandle behind these
// accesses, and whether all words are as they were.
func (w *world) badBehind(s Seat, word uint64, l ...mem.Access) {
	w.t.Helper()
	for _, x := range calls(s, word) {
		w.isDone(x.q, badHandle, l...)
	}
}

// liveWorld is a world whose nodes are all LIVE, and PLAIN, of the Gen 0.
func liveWorld(t *testing.T, p plan.Plan) *world {
	t.Helper()
	w := newWorld(t, p)
	for n := range p.Nodes {
		w.putState(n, 0, state.Live, state.Plain)
	}
	return w
}

// TestNoHandles: words that are no handle's are told at once.
func TestNoHandles(t *testing.T) {
	for _, p := range several() {
		w := liveWorld(t, p)
		for _, tenant := range tenants() {
			s := w.seat(tenant, p.Threads-1)
			for seal := range uint64(64) {
				if seal != 42 {
					w.badBehind(s, uint64(tenant)<<50|seal<<58)
				}
			}
			for _, word := range []uint64{0, 1, ones, ones - 1, 1 << 63, 1<<63 - 1, 1 << 30, uint64(p.State(0))} {
				w.badBehind(s, word)
			}
		}
	}
}

// TestHandlesOfOthers: another tenant's handle is told at once, whatever its node is.
func TestHandlesOfOthers(t *testing.T) {
	for _, p := range several() {
		w := liveWorld(t, p)
		for _, tenant := range tenants() {
			for other := range 64 {
				if other != tenant {
					w.badBehind(w.seat(tenant, 0), named(0, 0, other))
				}
			}
		}
	}
}

// TestNodesThatAreNotThere: a handle of a node that the plan hasn't is told at once.
func TestNodesThatAreNotThere(t *testing.T) {
	for _, p := range several() {
		w := liveWorld(t, p)
		for _, n := range []int{p.Nodes, p.Nodes + 1, 2 * p.Nodes, 1 << 19, 1<<19 + 1, api.MaxNodes - 2, api.MaxNodes - 1} {
			if n >= p.Nodes {
				w.badBehind(w.seat(7, 0), named(n, 0, 7))
			}
		}
	}
}

// TestStatesThatAreNotGood: behind the load of the state: other modes, kinds and Gens,
// words that are no state's, and each that differs from the good one in one bit.
func TestStatesThatAreNotGood(t *testing.T) {
	for _, p := range several() {
		w, n := newWorld(t, p), p.Nodes-1
		at := p.State(n)
		for _, gen := range gens(p) {
			for _, word := range otherStates(gen) {
				w.put(at, word)
				for _, x := range calls(w.seat(63, p.Threads-1), named(n, gen, 63))[:4] {
					w.isDone(x.q, badHandle, load(at))
				}
			}
		}
	}
}

// TestStatesThatAreNotGoodAnyMore: where the state is another one at the second load,
// the hazard names none behind it, and nothing is done with the node.
func TestStatesThatAreNotGoodAnyMore(t *testing.T) {
	for _, p := range several() {
		w, n := newWorld(t, p), p.Nodes-1
		at, held := p.State(n), p.Hazard(p.Threads-1, 0)
		for _, gen := range gens(p) {
			for _, x := range calls(w.seat(63, p.Threads-1), named(n, gen, 63))[1:] {
				w.putState(n, gen, state.Live, state.Plain)
				q := w.accesses(x.q, load(at), store(held, uint64(n+1)))
				for i, other := range otherStates(gen) {
					if i%4 == gen%4 {
						w.put(at, other)
						w.put(held, uint64(n+1))
						w.isDone(q, badHandle, load(at), store(held, 0))
						is(w, w.word(held), 0)
					}
				}
			}
		}
	}
}

// TestStatesThatAreGoodAgain: what the state is between the loads, and behind them, is
// not asked.
func TestStatesThatAreGoodAgain(t *testing.T) {
	w := newWorld(t, of(1))
	w.put(32, 5)
	for _, other := range otherStates(3) {
		w.putState(4, 3, state.Live, state.Plain)
		q := w.accesses(Swap(w.seat(2, 0), named(4, 3, 2), 1, 5, 5), load(29))
		w.put(29, other)
		q = w.accesses(q, store(1, 5))
		w.putState(4, 3, state.Live, state.Plain)
		q = w.accesses(q, load(29))
		w.put(29, other)
		w.isDone(q, value(1), trySwap(32, 5, 5), store(1, 0))
	}
}

// TestWordsOfOneBit: each word that differs from a good one in one bit: it is another
// tenant's, or no handle's, of another node or another Gen; where there is that node,
// of that Gen, it is good of that alone.
func TestWordsOfOneBit(t *testing.T) {
	for _, p := range several() {
		w, gen := newWorld(t, p), 5
		for n := range p.Nodes {
			w.putState(n, gen, state.Live, state.Plain)
		}
		for _, tenant := range tenants() {
			s, n := w.seat(tenant, 0), p.Nodes-1
			for bit := range 64 {
				word := named(n, gen, tenant) ^ 1<<bit
				other := int(word & (1<<20 - 1))
				switch {
				case bit >= 50 || other >= p.Nodes:
					w.badBehind(s, word)
				case bit >= 20:
					w.badBehind(s, word, load(p.State(n)))
				default:
					at := p.State(other)
					w.isDone(Write(s, word, 1, 7), done, load(at), store(p.Hazard(0, 0), uint64(other+1)), load(at), store(at+3, 7), store(p.Hazard(0, 0), 0))
				}
			}
		}
	}
}

// TestEarlierAndLaterGens: as a node is granted and dropped, up to its greatest Gen and
// beyond it, the handle of the Gen by which it is live is good, and none else.
func TestEarlierAndLaterGens(t *testing.T) {
	p := plan.Plan{Nodes: 1, Threads: 2, Retire: 7, Buckets: 1, Gen: 4}
	w := freshWorld(t, p)
	a, b := w.seat(9, 0), w.seat(9, 1)
	for gen := range 5 {
		is(w, w.does(callNew(a)), value(named(0, gen, 9)))
		for other := range 8 {
			if other != gen {
				w.badBehind(b, named(0, other, 9), load(p.State(0)))
			}
		}
		for f := range 3 {
			is(w, w.does(callRead(b, named(0, gen, 9), f)), done)
			is(w, w.does(callWrite(b, named(0, gen, 9), f, 77)), done)
		}
		is(w, w.does(callNew(b)), quota)
		is(w, w.does(callDrop(a, named(0, gen, 9))), done)
		for other := range 8 {
			w.badBehind(b, named(0, other, 9), load(p.State(0)))
		}
	}
	for range 2 {
		is(w, w.does(callNew(a)), quota)
		w.stateIs(0, 4, state.Gone, state.Plain)
		for other := range 8 {
			w.badBehind(a, named(0, other, 9), load(p.State(0)))
		}
	}
}

// TestOfTheGreatestPlan: the greatest node, by the greatest Gen, of the last tenant, by
// the last thread.
func TestOfTheGreatestPlan(t *testing.T) {
	p := plan.Plan{Nodes: api.MaxNodes, Threads: api.MaxThreads, Retire: api.MaxRetire, Buckets: 1, Gen: api.MaxGen}
	m, e := mem.New([]int{p.Size()})
	if e != api.OK {
		t.Fatal(e)
	}
	c, n := m.Cap(0), api.MaxNodes-1
	m.Do(c, store(p.Head(), api.MaxNodes))
	m.Do(c, store(p.State(n), api.MaxGen-1))
	s := Seat{p, 63, 15}
	old, h := named(n, api.MaxGen-1, 63), named(n, api.MaxGen, 63)
	for i, x := range []struct {
		q    program
		want api.Res
		k    int
	}{
		{New(s), value(old), 5},
		{Write(s, old, 2, ones), done, 5}, {Read(s, old, 2), value(ones), 5},
		{Write(s, h, 2, 1), badHandle, 1},
		{Drop(s, old), done, 5},
		{New(s), value(h), 2 + 50 + 1 + 8 + 5 - 1},
		{Read(s, h, 2), done, 5}, {Swap(s, h, 2, 0, ones), value(1), 5}, {Read(s, h, 2), value(ones), 5},
		{Read(s, old, 2), badHandle, 1}, {Read(s, h+1<<50, 2), badHandle, 0},
		{Drop(s, old), badHandle, 1}, {Drop(s, h), done, 5}, {Drop(s, h), badHandle, 1},
		{New(s), quota, 2 + 50 + 1 + 5}, {Read(s, h, 2), badHandle, 1}, {New(s), quota, 3},
	} {
		if r, k, over := prog.Run(x.q, m, c, 999); r != x.want || k != x.k || !over {
			t.Errorf("%d: %+v, %d steps, over %v; want %+v, %d steps", i, r, k, over, x.want, x.k)
		}
	}
}

// TestGoodOnesAlone: what a New, a Drop, a Read, a Write and a Swap come to, in a row
// that is drawn, beside what the nodes are by an account of the handles.
func TestGoodOnesAlone(t *testing.T) {
	for _, p := range several() {
		w, d := freshWorld(t, p), drawn(13)
		type node struct {
			live   bool
			fields [3]uint64
		}
		nodes, all := map[uint64]node{}, []uint64{}
		for range 600 {
			s := w.seat(33, d.below(p.Threads))
			h, f, v, was := uint64(0), d.below(3), uint64(d.below(3)), uint64(d.below(3))
			if len(all) > 0 {
				h = all[len(all)-1-d.below(min(len(all), 2*p.Nodes+1))]
			}
			x, r := nodes[h], badHandle
			switch d.below(6) {
			case 0, 1:
				if r := w.does(callNew(s)); r != quota {
					if _, was := nodes[r.V]; was {
						t.Fatalf("%+v: the handle %#x is granted twice", p, r.V)
					}
					nodes[r.V], all = node{live: true}, append(all, r.V)
				}
				continue
			case 2:
				if x.live {
					r = done
				}
				is(w, w.does(callDrop(s, h)), r)
				x.live = false
			case 3:
				if x.live {
					r = value(x.fields[f])
				}
				is(w, w.does(callRead(s, h, f)), r)
			case 4:
				if x.live {
					r, x.fields[f] = done, v
				}
				is(w, w.does(callWrite(s, h, f, v)), r)
			default:
				if x.live {
					r = done
					if x.fields[f] == was {
						r, x.fields[f] = value(1), v
					}
				}
				is(w, w.does(callSwap(s, h, f, was, v)), r)
			}
			nodes[h] = x
		}
	}
}

// P13.4.

// TestLookedAtIsGrantedToNobody: a node that is dropped while a thread looks at it is
// granted to nobody, till that is done; then it is, with fields of 0.
func TestLookedAtIsGrantedToNobody(t *testing.T) {
	for _, p := range several() {
		for _, x := range calls(Seat{p, 8, 0}, named(0, 0, 8))[1:] {
			w := freshWorld(t, p)
			looker, other := w.seat(8, 0), w.seat(8, p.Threads-1)
			is(w, w.does(callNew(looker)), value(named(0, 0, 8)))
			w.put(p.Head(), 0)
			at, held := p.State(0), p.Hazard(0, 0)
			q := w.accesses(x.q, load(at), store(held, 1), load(at))
			is(w, w.does(callDrop(other, named(0, 0, 8))), done)
			is(w, w.does(callNew(other)), quota)
			q, _ = q.Step(w.m, w.c)
			is(w, w.does(callNew(other)), quota)
			w.listIs(p.Threads-1, 0)
			r, k, over := prog.Run(q, w.m, w.c, 9)
			if r.E != api.OK || k != 1 || !over {
				t.Errorf("%+v: %+v, %d steps, over %v", p, r, k, over)
			}
			is(w, w.does(callNew(other)), value(named(0, 1, 8)))
			for f := range 3 {
				is(w, w.does(callRead(other, named(0, 1, 8), f)), done)
			}
			is(w, w.does(callRead(looker, named(0, 0, 8), 0)), badHandle)
		}
	}
}

// TestDroppedBetweenTheLoads: a node that is dropped, and one that is granted anew,
// between the two loads, is told to be bad, with the hazard None behind it.
func TestDroppedBetweenTheLoads(t *testing.T) {
	for _, p := range several() {
		for _, x := range calls(Seat{p, 8, 0}, named(0, 0, 8))[1:] {
			for _, ahead := range []int{1, 2} {
				for _, anew := range []bool{false, true} {
					w := freshWorld(t, p)
					other := w.seat(8, p.Threads-1)
					is(w, w.does(callNew(other)), value(named(0, 0, 8)))
					w.put(p.Head(), 0)
					at, held := p.State(0), p.Hazard(0, 0)
					l := these(load(at), store(held, 1), load(at), store(held, 0))
					q := w.accesses(x.q, l[:ahead]...)
					is(w, w.does(callDrop(other, named(0, 0, 8))), done)
					if anew && ahead == 1 {
						is(w, w.does(callNew(other)), value(named(0, 1, 8)))
						is(w, w.does(callWrite(other, named(0, 1, 8), 0, 7)), done)
					}
					w.isDone(q, badHandle, l[ahead:]...)
					is(w, w.word(held), 0)
				}
			}
		}
	}
}

// TestHeldByOthers: a node that is held by any hazard of any thread isn't granted.
func TestHeldByOthers(t *testing.T) {
	for _, p := range several() {
		w := freshWorld(t, p)
		w.putFree(0)
		s := w.seat(1, p.Threads-1)
		gen := 0
		for i := range hazards(p) {
			w.putState(0, gen, state.Free, state.Plain)
			w.putFree(0)
			r := w.does(callNew(s))
			is(w, r, value(named(0, gen, 1)))
			prog.Run(hazard.Set(p, i/3, i%3, 0), w.m, w.c, 9)
			is(w, w.does(callDrop(s, r.V)), done)
			is(w, w.does(callNew(s)), quota)
			prog.Run(hazard.Clear(p, i/3), w.m, w.c, 9)
			is(w, w.does(callNew(s)), value(named(0, gen+1, 1)))
		}
	}
}
