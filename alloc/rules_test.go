package alloc

import (
	"math"
	"slices"
	"testing"

	"cubicle/api"
	"cubicle/mem"
	"cubicle/plan"
	"cubicle/prog"
	"cubicle/retire"
	"cubicle/state"
)

// R1.

// notFormed are plans that aren't, each by one number at least.
func notFormed() []plan.Plan {
	l := []plan.Plan{
		{}, {Nodes: -1, Threads: -1, Retire: -1, Domains: -1, Buckets: -1, Gen: -1},
		{Nodes: 3, Threads: 0, Retire: 4, Buckets: 1, Gen: 9},
		{Nodes: 3, Threads: 1, Retire: 3, Buckets: 1, Gen: 9},
		{Nodes: 3, Threads: 1, Retire: 4, Buckets: 0, Gen: 9},
		{Nodes: 3, Threads: 1, Retire: 4, Buckets: 1, Gen: 0},
		{Nodes: 3, Threads: 1, Retire: 4, Domains: 65, Buckets: 1, Gen: 9},
	}
	for _, n := range []int{math.MinInt, math.MinInt + 1, -2, -1, 0, 1 << 32, math.MaxInt/3 + 1, math.MaxInt - 1, math.MaxInt} {
		l = append(l, plan.Plan{Nodes: n, Threads: 1, Retire: 4, Buckets: 1, Gen: 9},
			plan.Plan{Nodes: 3, Threads: n, Retire: 49, Buckets: 1, Gen: 9},
			plan.Plan{Nodes: 3, Threads: 1, Retire: n, Buckets: 1, Gen: 9})
	}
	return l
}

// not are numbers of things that aren't there, if there are so many.
func not(many int) []int {
	return []int{-1, -2, many, many + 1, 1 << 32, 1<<32 + 1, math.MinInt, math.MinInt + 1, math.MaxInt - 1, math.MaxInt}
}

// refused asks whether the program isn't over, and its step by the capability is
// refused, again and again, and leaves it as it is.
func refused[R comparable](w *world, q prog.Prog[R], c mem.Cap) {
	w.t.Helper()
	var none R
	was, words, count := q, w.words(), w.m.Count()
	for range 3 {
		next, ok := q.Step(w.m, c)
		if r, over := next.Over(); ok || over || r != none {
			w.t.Errorf("%+v: a step is %v, over %v, with %+v", w.p, ok, over, r)
		}
		a, _ := was.Access()
		if b, ok := next.Access(); a != b || !ok {
			w.t.Errorf("%+v: the access was %+v, and is %+v", w.p, a, b)
		}
		q = next
	}
	if r, n, over := prog.Run(q, w.m, c, math.MaxInt); r != none || n != 0 || over {
		w.t.Errorf("%+v: %+v, %d steps, over %v", w.p, r, n, over)
	}
	if w.m.Count() != count {
		w.t.Errorf("%+v: an access is done", w.p)
	}
	w.wordsAre(words)
}

// TestThreadsThatAreNotThere: they are granted what is free; where they would scan, or
// stash, they are refused.
func TestThreadsThatAreNotThere(t *testing.T) {
	for _, p := range several() {
		for _, thread := range not(p.Threads) {
			w := newWorld(t, p)
			for there := range p.Threads {
				w.putRetired(there, 1, 1, 1)
			}
			w.putFree(0)
			w.putState(0, 1, state.Free, state.Plain)
			refused(w, Stash(p, thread, 0), w.c)
			is(w, w.grant(thread, 1), Grant{Gen: 1})
			refused(w, accesses(w, New(p, thread, 1), load(0)), w.c)
			at := p.State(0)
			refused(w, accesses(w, Retire(p, thread, 0), load(at), store(at, 1|2<<30|1<<32)), w.c)
		}
	}
}

// TestKindsThatAreNotThere: nothing is granted as one of these, and no word is changed.
func TestKindsThatAreNotThere(t *testing.T) {
	for _, p := range several() {
		w := freshWorld(t, p)
		for _, kind := range append(not(3), 4, 5, 8, 1<<30, 1<<31, 1<<34) {
			refused(w, New(p, 0, kind), w.c)
			w.put(p.Head(), 0)
			refused(w, New(p, 0, kind), w.c)
			w.put(p.Head(), 1)
		}
	}
}

// TestRetireOfNodesThatAreNotThere: nothing is done of them.
func TestRetireOfNodesThatAreNotThere(t *testing.T) {
	for _, p := range several() {
		w := newWorld(t, p)
		for _, n := range not(p.Nodes) {
			refused(w, Retire(p, 0, n), w.c)
		}
	}
}

// TestStashOfNodesThatAreNotThere: one more than the number is stored, as of others; a
// Scan leaves it there. None comes to None, room or not.
func TestStashOfNodesThatAreNotThere(t *testing.T) {
	for _, p := range several() {
		for _, x := range []struct {
			n    int
			word uint64
		}{
			{p.Nodes, uint64(p.Nodes) + 1}, {p.Nodes + 1, uint64(p.Nodes) + 2}, {1 << 32, 1<<32 + 1},
			{math.MaxInt - 1, math.MaxInt}, {math.MaxInt, 1 << 63},
			{api.None, 0}, {-2, ones}, {math.MinInt, 1<<63 + 1}, {math.MinInt + 1, 1<<63 + 2},
		} {
			w := newWorld(t, p)
			count := p.Count(0)
			comesTo(w, accesses(w, Stash(p, 0, x.n), load(count), store(count+1, x.word), store(count, 1)), x.n)
			w.listIs(0)
			w.putState(0, 0, state.Live, state.Plain)
			is(w, w.retire(0, 0), 0)
			is(w, w.grant(0, 0), Grant{Gen: 1})
			is(w, w.word(count), 1)
			for i := 1; i < p.Retire; i++ {
				is(w, w.stash(0, x.n), x.n)
			}
			is(w, w.stash(0, x.n), api.None)
			is(w, w.word(count), uint64(p.Retire))
		}
	}
}

// TestRegionsThatAreNotThere: no node is free in them, and no step is done there.
func TestRegionsThatAreNotThere(t *testing.T) {
	w := freshWorld(t, of(2))
	none, e := mem.New(nil)
	if e != api.OK {
		t.Fatal(e)
	}
	w.putRetired(1, 1, 2, 3)
	for _, region := range not(2) {
		for _, m := range []*mem.Memory{w.m, none} {
			if n := Free(w.p, m, region); n != 0 {
				t.Errorf("Free of the region %d is %d", region, n)
			}
		}
		for _, c := range []mem.Cap{{Region: region, Epoch: 1}, w.m.Cap(region)} {
			refused(w, New(w.p, 1, 0), c)
			refused(w, Stash(w.p, 1, 0), c)
			refused(w, Retire(w.p, 1, 0), c)
		}
	}
	if n := Free(w.p, none, 0); n != 0 {
		t.Error("Free of no region:", n)
	}
}

// TestPlansThatAreNotFormed: nothing is done of them.
func TestPlansThatAreNotFormed(t *testing.T) {
	w := newWorld(t, of(2))
	for at := range w.p.Size() {
		w.put(at, 1)
	}
	for _, p := range notFormed() {
		for _, i := range append(not(p.Nodes), 0, 1, 2) {
			refused(w, New(p, 0, i), w.c)
			refused(w, New(p, i, 0), w.c)
			refused(w, Stash(p, 0, i), w.c)
			refused(w, Stash(p, i, 0), w.c)
			refused(w, Retire(p, 0, i), w.c)
			refused(w, Retire(p, i, 0), w.c)
		}
		for _, region := range append(not(2), 0, mine) {
			if n := Free(p, w.m, region); n != 0 {
				t.Errorf("%+v: Free is %d", p, n)
			}
		}
	}
}

// TestRegionsThatAreTooSmall: each call ends; what isn't there is refused.
func TestRegionsThatAreTooSmall(t *testing.T) {
	p := of(1)
	for size := range p.Size() {
		m, e := mem.New([]int{size})
		if e != api.OK {
			t.Fatal(e)
		}
		for at := range size {
			m.Do(m.Cap(0), store(at, 4))
		}
		for n := range p.Nodes {
			for _, q := range []prog.Prog[int]{Stash(p, 0, n), Retire(p, 0, n)} {
				if _, k, _ := prog.Run(q, m, m.Cap(0), 999); k > 99 {
					t.Errorf("%d words: %d steps", size, k)
				}
			}
			if _, k, _ := prog.Run(New(p, 0, n%3), m, m.Cap(0), 999); k > 99 {
				t.Errorf("%d words: New is %d steps", size, k)
			}
			if k := Free(p, m, 0); k > p.Nodes {
				t.Errorf("%d words: Free is %d", size, k)
			}
		}
	}
}

// TestHeadsThatNameNone: a pop of a node that isn't there is refused, behind a Scan
// too.
func TestHeadsThatNameNone(t *testing.T) {
	for _, p := range several() {
		for _, word := range []uint64{uint64(p.Nodes) + 1, uint64(p.Nodes) + 2, 1<<21 - 1, ones} {
			w := newWorld(t, p)
			w.put(p.Head(), word)
			w.countIs(0)
			refused(w, accesses(w, New(p, 0, 0), load(0)), w.c)
			w.put(p.Head(), 0)
			q := accesses(w, New(p, 0, 0), load(0), load(p.Count(0)))
			w.put(p.Head(), word)
			refused(w, accesses(w, q, load(0)), w.c)
		}
	}
}

// wild is a word that a region may have, whatever it is.
func (d *drawn) wild(p plan.Plan) uint64 {
	switch d.below(8) {
	case 0:
		return noNames(p)[d.below(len(noNames(p)))]
	case 1:
		return full(p)[d.below(len(full(p)))]
	case 2:
		return noStates()[d.below(len(noStates()))]
	case 3:
		return state.State{Gen: d.below(p.Gen + 1), Mode: d.below(4), Kind: d.below(3)}.Word()
	case 4:
		return d.word() >> d.below(64)
	default:
		return uint64(d.below(p.Nodes+2)) | uint64(d.below(2)*d.below(9))<<21
	}
}

// putHead lets the head name a node of the plan, or, as often, none, by a tag that is
// drawn: where it names one that isn't there, a pop is refused.
func (d *drawn) putHead(w *world) {
	w.t.Helper()
	w.put(w.p.Head(), d.word()<<21|uint64(d.below(2)*d.below(w.p.Nodes+1)))
}

// TestWhateverWords: each step ends, none panics; what the chapter says is done of
// whatever words, and no other word is changed.
func TestWhateverWords(t *testing.T) {
	d := drawn(12)
	for _, p := range []plan.Plan{of(1), of(2), {Nodes: 2, Threads: 5, Retire: 16, Domains: 3, Buckets: 5, Gen: 2}} {
		w := newWorld(t, p)
		for range 600 {
			for at := range p.Size() {
				w.put(at, d.wild(p))
			}
			thread, n := d.below(p.Threads), d.below(p.Nodes)
			for i := range 6 {
				d.putHead(w)
				if k := Free(p, w.m, mine); k < 0 || k > p.Nodes {
					t.Fatalf("%+v: Free is %d", p, k)
				}
				switch i % 3 {
				case 0:
					w.grant(thread, d.below(3))
				case 1:
					w.stash(thread, n)
				default:
					w.retire(thread, n)
				}
			}
		}
	}
}

// R5 and R7.

// fixture is a world of two threads, of which the first one retired as many nodes as
// it may, and the other one three; hazards hold two nodes of each. The node 15 alone
// is free.
func fixture(t *testing.T) *world {
	w := newWorld(t, of(2))
	w.putRetired(0, 4, 6, 8, 2, 3, 1, 5)
	w.putRetired(1, 10, 11, 12)
	w.putHazards(0, 10, 0, 6, 3, 12)
	for n := range w.p.Nodes {
		w.putState(n, n%10, state.Retired, state.Plain)
	}
	w.putFree(15)
	return w
}

// task is a program, and what it does by the chapter's words.
type task struct {
	q     prog.Prog[Grant]
	words func(chapter) Grant
	empty bool // whether no node is free
}

// numbers is the task of a program that comes to a node.
func numbers(q prog.Prog[int], words func(chapter) int) task {
	return task{then(q, same), func(x chapter) Grant { return Grant{Node: words(x)} }, false}
}

// tasks are of each call, with and without a Scan.
func tasks(p plan.Plan) []task {
	return []task{
		{New(p, 0, 1), grants(0, 1), false},
		{New(p, 0, 2), grants(0, 2), true},
		{New(p, 1, 0), grants(1, 0), true},
		numbers(Stash(p, 0, 14), stashes(0, 14)),
		numbers(Stash(p, 1, 14), stashes(1, 14)),
		numbers(Retire(p, 0, 13), retires(0, 13)),
		numbers(Retire(p, 1, 13), retires(1, 13)),
	}
}

// begin is the task's world.
func (x task) begin(t *testing.T) *world {
	w := fixture(t)
	if x.empty {
		w.putFree()
	}
	return w
}

// behind is the program behind these accesses, which it must do.
func behind[R any](w *world, q prog.Prog[R], l []did) prog.Prog[R] {
	w.t.Helper()
	for _, d := range l {
		q = accesses(w, q, d.a)
	}
	return q
}

// TestRunAgain: a program, and what is left of it behind each of its steps, may be run
// again and again, and does the same where the words are the same.
func TestRunAgain(t *testing.T) {
	for _, x := range tasks(of(2)) {
		w := x.begin(t)
		first := w.words()
		whole, _ := steps(w, x.q)
		want := follows(w, whole, x.words)
		last := w.words()
		for stop := range len(whole) + 1 {
			w.lay(first)
			q := behind(w, x.q, whole[:stop])
			words := w.words()
			for range 2 {
				w.lay(words)
				l, r := steps(w, q)
				if !slices.Equal(l, whole[stop:]) {
					t.Fatalf("behind %d steps: %+v; want %+v", stop, l, whole[stop:])
				}
				comesTo(w, r, want)
				w.wordsAre(last)
			}
		}
	}
}

// TestRunAgainWithOtherWords: what is left of a program behind each of its steps does
// what the chapter says of the words as they are then, each time.
func TestRunAgainWithOtherWords(t *testing.T) {
	d := drawn(12)
	for _, x := range tasks(of(2)) {
		w := x.begin(t)
		first := w.words()
		whole, _ := steps(w, x.q)
		for stop := range len(whole) + 1 {
			w.lay(first)
			q := behind(w, x.q, whole[:stop])
			a, busy := q.Access()
			for range 6 {
				for at := range w.p.Size() {
					if d.below(3) == 0 {
						w.put(at, d.wild(w.p))
					}
				}
				d.putHead(w)
				l, r := steps(w, q)
				comesTo(w, r, follows(w, slices.Concat(whole[:stop], l), x.words))
				if b, ok := q.Access(); a != b || ok != busy {
					t.Errorf("the access was %+v, and is %+v, %v", a, b, ok)
				}
			}
		}
	}
}

// TestNewRunAgain: one program is granted another node each time that it is run, from
// its beginning, and from behind its first load.
func TestNewRunAgain(t *testing.T) {
	w := freshWorld(t, of(1))
	q := New(w.p, 0, 2)
	for n := range w.p.Nodes {
		is(w, does(w, q, grants(0, 2)), Grant{Node: n})
	}
	is(w, does(w, q, grants(0, 2)), quota)
	is(w, does(w, q, grants(0, 2)), quota)
	w.retire(0, 5)
	is(w, does(w, q, grants(0, 2)), Grant{Node: 5, Gen: 1})

	w = freshWorld(t, of(1))
	q = accesses(w, New(w.p, 0, 0), load(0))
	for n := range w.p.Nodes {
		g, _, over := prog.Run(q, w.m, w.c, 99)
		is(w, g, Grant{Node: n})
		is(w, over, true)
	}
}

// TestRetireRunAgain: one program puts its node each time that it is run; so does one
// of Stash, which leaves the state.
func TestRetireRunAgain(t *testing.T) {
	w := freshWorld(t, of(1))
	a, b := Stash(w.p, 0, 7), Retire(w.p, 0, 7)
	w.putState(7, 3, state.Live, state.Queued)
	is(w, does(w, a, stashes(0, 7)), 7)
	w.stateIs(7, 3, state.Live, state.Queued)
	is(w, does(w, b, retires(0, 7)), 7)
	w.stateIs(7, 3, state.Retired, state.Queued)
	is(w, does(w, a, stashes(0, 7)), 7)
	is(w, does(w, b, retires(0, 7)), 7)
	w.listIs(0, 7, 7, 7, 7)
	w.putHazards(8)
	is(w, does(w, a, stashes(0, 7)), api.None)
	is(w, does(w, b, retires(0, 7)), api.None)
	w.putHazards()
	is(w, does(w, a, stashes(0, 7)), 7)
	w.listIs(0, 7)
}

// TestProgramsDoNotHangOnOneAnother: but by the memory: what one loaded is its own.
func TestProgramsDoNotHangOnOneAnother(t *testing.T) {
	w := freshWorld(t, of(2))
	w.putState(0, 4, state.Free, state.Plain)
	w.putState(1, 6, state.Free, state.Plain)
	a, b := accesses(w, New(w.p, 0, 1), load(0), load(24)), accesses(w, New(w.p, 1, 2), load(0), load(24))
	b = accesses(w, b, trySwap(0, 1, 2|1<<21), load(23))
	a = accesses(w, a, trySwap(0, 1, 2|1<<21), load(0), load(29), trySwap(0, 2|1<<21, 3|2<<21), load(28))
	comesTo(w, accesses(w, b, store(23, 4|1<<30|2<<32)), Grant{Node: 0, Gen: 4})
	comesTo(w, accesses(w, a, store(28, 6|1<<30|1<<32)), Grant{Node: 1, Gen: 6})

	x, y := accesses(w, Retire(w.p, 0, 1), load(28)), accesses(w, Retire(w.p, 1, 0), load(23))
	x = accesses(w, x, store(28, 6|2<<30|1<<32), load(7))
	y = accesses(w, y, store(23, 4|2<<30|2<<32), load(15), store(16, 1))
	x = accesses(w, x, store(8, 2))
	comesTo(w, accesses(w, y, store(15, 1)), 0)
	comesTo(w, accesses(w, x, store(7, 1)), 1)
	w.listIs(0, 1)
	w.listIs(1, 0)
}

// TestRegionsDoNotHangOnOneAnother: one program, in two regions, and two plans.
func TestRegionsDoNotHangOnOneAnother(t *testing.T) {
	p, other := of(1), plan.Plan{Nodes: 6, Threads: 2, Retire: 8, Domains: 2, Buckets: 3, Gen: 5}
	m, e := mem.New([]int{p.Size(), p.Size(), other.Size()})
	if e != api.OK {
		t.Fatal(e)
	}
	m.Do(m.Cap(0), store(p.Head(), 3))
	m.Do(m.Cap(1), store(p.Head(), 8))
	m.Do(m.Cap(1), store(p.State(7), 3))
	m.Do(m.Cap(2), store(other.Head(), 6))
	q, back := New(p, 0, 1), Retire(p, 0, 2)
	for region, want := range []Grant{{Node: 2}, {Node: 7, Gen: 3}} {
		is(&world{t: t, p: p}, Free(p, m, region), 1)
		if g, _, over := prog.Run(q, m, m.Cap(region), 99); g != want || !over {
			t.Errorf("the region %d: %+v, over %v; want %+v", region, g, over, want)
		}
		is(&world{t: t, p: p}, Free(p, m, region), 0)
		is(&world{t: t, p: p}, Free(other, m, 2), 1)
	}
	if g, _, over := prog.Run(New(other, 1, 0), m, m.Cap(2), 99); g != (Grant{Node: 5}) || !over {
		t.Errorf("%+v, over %v", g, over)
	}
	prog.Run(back, m, m.Cap(1), 99)
	for region, want := range [][]int{nil, {2}} {
		if l := retire.List(p, m, region, 0); !slices.Equal(l, want) {
			t.Errorf("the region %d: %v; want %v", region, l, want)
		}
	}
}

// TestRefusedBehindABump: a program whose capability isn't good any more stays as it
// is, and goes on by the good one.
func TestRefusedBehindABump(t *testing.T) {
	for _, x := range tasks(of(2)) {
		w := x.begin(t)
		first := w.words()
		whole, _ := steps(w, x.q)
		want := follows(w, whole, x.words)
		for stop := range whole {
			w.lay(first)
			q, old := behind(w, x.q, whole[:stop]), w.c
			c, e := w.m.Bump(mine)
			if e != api.OK {
				t.Fatal(e)
			}
			w.c = c
			refused(w, q, old)
			comesTo(w, behind(w, q, whole[stop:]), want)
		}
	}
}
