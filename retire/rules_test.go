package retire

import (
	"math"
	"slices"
	"testing"

	"cubicle/api"
	"cubicle/mem"
	"cubicle/plan"
	"cubicle/prog"
	"cubicle/state"
)

// R1.

// notFormed are plans that aren't, each by one number at least.
func notFormed() []plan.Plan {
	l := []plan.Plan{
		{}, {Nodes: -1, Threads: -1, Retire: -1, Domains: -1, Buckets: -1, Gen: -1},
		{Nodes: 3, Threads: 0, Retire: 4, Buckets: 1, Gen: 9},
		{Nodes: 3, Threads: 1, Retire: 3, Buckets: 1, Gen: 9},
		{Nodes: 3, Threads: 1, Retire: 4, Buckets: 0, Gen: 9},
		{Nodes: 3, Threads: 1, Retire: 4, Buckets: 1, Gen: 0},
		{Nodes: 3, Threads: 1, Retire: 4, Domains: 65, Buckets: 1, Gen: 9},
	}
	for _, n := range []int{math.MinInt, math.MinInt + 1, -2, -1, 0, 1 << 32, math.MaxInt/3 + 1, math.MaxInt - 1, math.MaxInt} {
		l = append(l, plan.Plan{Nodes: n, Threads: 1, Retire: 4, Buckets: 1, Gen: 9},
			plan.Plan{Nodes: 3, Threads: n, Retire: 49, Buckets: 1, Gen: 9},
			plan.Plan{Nodes: 3, Threads: 1, Retire: n, Buckets: 1, Gen: 9})
	}
	return l
}

// not are numbers of things that aren't there, if there are so many.
func not(many int) []int {
	return []int{-1, -2, many, many + 1, 1 << 32, 1<<32 + 1, math.MinInt, math.MinInt + 1, math.MaxInt - 1, math.MaxInt}
}

// refused asks whether the program isn't over, and its step by the capability is
// refused, again and again, and leaves it as it is.
func (w *world) refused(q prog.Prog[int], c mem.Cap) {
	w.t.Helper()
	was, words, count := q, w.words(), w.m.Count()
	for range 3 {
		next, ok := q.Step(w.m, c)
		if r, over := next.Over(); ok || over || r != 0 {
			w.t.Errorf("%+v: a step is %v, over %v, with %d", w.p, ok, over, r)
		}
		a, _ := was.Access()
		if b, ok := next.Access(); a != b || !ok {
			w.t.Errorf("%+v: the access was %+v, and is %+v", w.p, a, b)
		}
		q = next
	}
	if r, n, over := prog.Run(q, w.m, c, math.MaxInt); r != 0 || n != 0 || over {
		w.t.Errorf("%+v: %d, %d steps, over %v", w.p, r, n, over)
	}
	if w.m.Count() != count {
		w.t.Errorf("%+v: an access is done", w.p)
	}
	w.wordsAre(words)
}

// TestThreadsThatAreNotThere: nothing is done of them, and they retired none.
func TestThreadsThatAreNotThere(t *testing.T) {
	for _, p := range several() {
		w := newWorld(t, p)
		for thread := range p.Threads {
			w.putRetired(thread, 1, 1, 1)
		}
		for _, thread := range not(p.Threads) {
			w.refused(Put(p, thread, 0), w.c)
			w.refused(Put(p, thread, p.Nodes), w.c)
			w.refused(Scan(p, thread), w.c)
			w.listIs(thread)
		}
	}
}

// TestReclaimOfNodesThatAreNotThere: nothing is done of them.
func TestReclaimOfNodesThatAreNotThere(t *testing.T) {
	for _, p := range several() {
		w := newWorld(t, p)
		for _, n := range not(p.Nodes) {
			w.refused(Reclaim(p, n), w.c)
		}
	}
}

// TestPutOfNodesThatAreNotThere: one more than the number is stored, as of others;
// List leaves it out, and a Scan leaves it there.
func TestPutOfNodesThatAreNotThere(t *testing.T) {
	for _, p := range several() {
		for _, x := range []struct {
			n    int
			word uint64
		}{
			{p.Nodes, uint64(p.Nodes) + 1}, {p.Nodes + 1, uint64(p.Nodes) + 2}, {1 << 32, 1<<32 + 1},
			{math.MaxInt - 1, math.MaxInt}, {math.MaxInt, 1 << 63},
			{-1, 0}, {-2, ones}, {math.MinInt, 1<<63 + 1}, {math.MinInt + 1, 1<<63 + 2},
		} {
			w := newWorld(t, p)
			count := p.Count(0)
			comesTo(w, accesses(w, Put(p, 0, x.n), load(count), store(count+1, x.word), store(count, 1)), 1)
			w.listIs(0)
			comesTo(w, accesses(w, Scan(p, 0), load(count), load(count+1)), 0)
			w.is(w.does(Put(p, 0, 0), puts(0, 0)), 2)
			w.listIs(0, 0)
			w.is(w.does(Scan(p, 0), scans(0)), 1)
			w.is(w.does(Put(p, 0, 0), puts(0, 0)), 2)
		}
	}
}

// TestRegionsThatAreNotThere: List tells nothing of them, and no step is done in them.
func TestRegionsThatAreNotThere(t *testing.T) {
	w := newWorld(t, of(2))
	none, e := mem.New(nil)
	if e != api.OK {
		t.Fatal(e)
	}
	w.putRetired(1, 1, 2, 3)
	for _, region := range not(2) {
		for thread := range 2 {
			for _, m := range []*mem.Memory{w.m, none} {
				if l := List(w.p, m, region, thread); len(l) != 0 {
					t.Errorf("List of the region %d is %v", region, l)
				}
			}
		}
		for _, c := range []mem.Cap{{Region: region, Epoch: 1}, w.m.Cap(region)} {
			w.refused(Put(w.p, 1, 0), c)
			w.refused(Reclaim(w.p, 1), c)
			w.refused(Scan(w.p, 1), c)
		}
	}
	if l := List(w.p, none, 0, 0); len(l) != 0 {
		t.Error("List of no region:", l)
	}
}

// TestPlansThatAreNotFormed: nothing is done of them.
func TestPlansThatAreNotFormed(t *testing.T) {
	w := newWorld(t, of(2))
	for at := range w.p.Size() {
		w.put(at, 1)
	}
	for _, p := range notFormed() {
		for _, i := range append(not(p.Nodes), 0, 1, 2) {
			w.refused(Put(p, i, 0), w.c)
			w.refused(Put(p, 0, i), w.c)
			w.refused(Reclaim(p, i), w.c)
			w.refused(Scan(p, i), w.c)
			for _, region := range append(not(2), 0, mine) {
				if l := List(p, w.m, region, i); len(l) != 0 {
					t.Errorf("%+v: List is %v", p, l)
				}
			}
		}
	}
}

// TestRegionsThatAreTooSmall: each call ends; what isn't there is refused.
func TestRegionsThatAreTooSmall(t *testing.T) {
	p := of(1)
	for size := range p.Size() {
		m, e := mem.New([]int{size})
		if e != api.OK {
			t.Fatal(e)
		}
		for at := range size {
			m.Do(m.Cap(0), store(at, 4))
		}
		for n := range p.Nodes {
			for _, q := range []prog.Prog[int]{Put(p, 0, n), Reclaim(p, n), Scan(p, 0)} {
				if _, k, _ := prog.Run(q, m, m.Cap(0), 999); k > 99 {
					t.Errorf("%d words: %d steps", size, k)
				}
			}
			if l := List(p, m, 0, 0); len(l) > 4 {
				t.Errorf("%d words: List is %v", size, l)
			}
		}
	}
}

// wild is a word that a region may have, whatever it is.
func (d *drawn) wild(p plan.Plan) uint64 {
	switch d.below(8) {
	case 0:
		return noNames(p)[d.below(len(noNames(p)))]
	case 1:
		return full(p)[d.below(len(full(p)))]
	case 2:
		return noStates()[d.below(len(noStates()))]
	case 3:
		return state.State{Gen: d.below(p.Gen + 1), Mode: d.below(4), Kind: d.below(3)}.Word()
	case 4:
		return d.word() >> d.below(64)
	default:
		return uint64(d.below(p.Nodes+2)) | uint64(d.below(2)*d.below(9))<<21
	}
}

// TestWhateverWords: each step ends, none panics; what the chapter says is done of
// whatever words, and no other word is changed.
func TestWhateverWords(t *testing.T) {
	d := drawn(11)
	for _, p := range []plan.Plan{of(1), of(2), {Nodes: 2, Threads: 5, Retire: 16, Domains: 3, Buckets: 5, Gen: 2}} {
		w := newWorld(t, p)
		for range 1500 {
			for at := range p.Size() {
				w.put(at, d.wild(p))
			}
			thread, n := d.below(p.Threads), d.below(p.Nodes)
			w.listsNodes(thread)
			w.does(Put(p, thread, n), puts(thread, n))
			w.does(Reclaim(p, n), reclaims(n))
			w.does(Scan(p, thread), scans(thread))
			w.listsNodes(thread)
			w.does(Scan(p, thread), scans(thread))
		}
	}
}

// listsNodes asks whether List tells the nodes that the thread's words name.
func (w *world) listsNodes(thread int) {
	w.t.Helper()
	var want []int
	for i := range int(min(uint64(w.p.Retire), w.m.Peek(mine, w.p.Count(thread)))) {
		if word := w.m.Peek(mine, w.p.Retired(thread, i)); word >= 1 && word <= uint64(w.p.Nodes) {
			want = append(want, int(word-1))
		}
	}
	w.listIs(thread, want...)
}

// R5 and R7.

// fixture is a world of two threads, of which the first one retired five nodes; a
// hazard holds the second one of these.
func fixture(t *testing.T) *world {
	w := newWorld(t, of(2))
	w.putRetired(0, 4, 6, 8, 2, 3)
	w.putRetired(1, 10)
	w.putHazards(0, 0, 0, 6)
	for n := range w.p.Nodes {
		w.putState(n, n%10, state.Retired, state.Plain)
	}
	return w
}

// task is a program, and what it does by the chapter's words.
type task struct {
	q     prog.Prog[int]
	words func(chapter) int
}

// tasks are of each call; the node 9 is gone when it is reclaimed.
func tasks(p plan.Plan) []task {
	return []task{
		{Put(p, 0, 9), puts(0, 9)},
		{Put(p, 1, 0), puts(1, 0)},
		{Reclaim(p, 12), reclaims(12)},
		{Reclaim(p, 9), reclaims(9)},
		{Scan(p, 0), scans(0)},
		{Scan(p, 1), scans(1)},
	}
}

// lay lets all the words of the own region be these.
func (w *world) lay(words []uint64) {
	w.t.Helper()
	for at := range w.p.Size() {
		w.put(at, words[w.m.Size(0)+at])
	}
}

// behind is the program behind these accesses, which it must do.
func (w *world) behind(q prog.Prog[int], l []did) prog.Prog[int] {
	w.t.Helper()
	for _, d := range l {
		q = accesses(w, q, d.a)
	}
	return q
}

// TestRunAgain: a program, and what is left of it behind each of its steps, may be run
// again and again, and does the same where the words are the same.
func TestRunAgain(t *testing.T) {
	for i := range tasks(of(2)) {
		w := fixture(t)
		x := tasks(w.p)[i]
		first := w.words()
		whole, _ := w.steps(x.q)
		want := w.follows(whole, x.words)
		last := w.words()
		for stop := range len(whole) + 1 {
			w.lay(first)
			q := w.behind(x.q, whole[:stop])
			words := w.words()
			for range 2 {
				w.lay(words)
				l, r := w.steps(q)
				if !slices.Equal(l, whole[stop:]) {
					t.Fatalf("behind %d steps: %+v; want %+v", stop, l, whole[stop:])
				}
				comesTo(w, r, want)
				w.wordsAre(last)
			}
		}
	}
}

// TestRunAgainWithOtherWords: what is left of a program behind each of its steps does
// what the chapter says of the words as they are then, each time.
func TestRunAgainWithOtherWords(t *testing.T) {
	d := drawn(11)
	for i := range tasks(of(2)) {
		w := fixture(t)
		x := tasks(w.p)[i]
		first := w.words()
		whole, _ := w.steps(x.q)
		for stop := range len(whole) + 1 {
			w.lay(first)
			q := w.behind(x.q, whole[:stop])
			a, busy := q.Access()
			for range 6 {
				for at := range w.p.Size() {
					if d.below(3) == 0 {
						w.put(at, d.wild(w.p))
					}
				}
				l, r := w.steps(q)
				comesTo(w, r, w.follows(slices.Concat(whole[:stop], l), x.words))
				if b, ok := q.Access(); a != b || ok != busy {
					t.Errorf("the access was %+v, and is %+v, %v", a, b, ok)
				}
			}
		}
	}
}

// TestPutRunAgain: one program puts its node each time that it is run.
func TestPutRunAgain(t *testing.T) {
	w := newWorld(t, of(1))
	q := Put(w.p, 0, 7)
	for _, want := range []int{1, 2, 3, 4, api.None, api.None} {
		w.is(w.does(q, puts(0, 7)), want)
	}
	w.listIs(0, 7, 7, 7, 7)
}

// TestScanRunAgain: one program scans what is retired each time that it is run.
func TestScanRunAgain(t *testing.T) {
	w := newWorld(t, of(2))
	q := Scan(w.p, 1)
	w.is(w.does(q, scans(1)), 0)
	var list []int
	for _, x := range [][]int{{3}, {4, 5, 6}, nil, {0, 7}} {
		w.putRetired(1, names(x...)...)
		w.is(w.does(q, scans(1)), len(x))
		w.is(w.does(q, scans(1)), 0)
		list = append(x, list...)
		w.freeIs(list...)
	}
}

// TestListIsNewMemory: what is done with an answer, and its room, changes no other
// answer, and no word.
func TestListIsNewMemory(t *testing.T) {
	w := fixture(t)
	words := w.words()
	a, b := List(w.p, w.m, mine, 0), List(w.p, w.m, mine, 0)
	for _, l := range [][]int{a, b} {
		if !slices.Equal(l, []int{3, 5, 7, 1, 2}) {
			t.Errorf("List is %v", l)
		}
		l = l[:cap(l)]
		for i := range l {
			l[i] = 99
		}
		_ = append(l, 98)
		w.listIs(0, 3, 5, 7, 1, 2)
		w.listIs(1, 9)
	}
	w.wordsAre(words)
	a = List(w.p, w.m, mine, 0)
	w.putRetired(0, 1)
	if !slices.Equal(a, []int{3, 5, 7, 1, 2}) {
		t.Errorf("a List that was told is %v", a)
	}
}

// TestProgramsDoNotHangOnOneAnother: but by the memory: what one loaded is its own.
func TestProgramsDoNotHangOnOneAnother(t *testing.T) {
	w := newWorld(t, of(2))
	a, b := accesses(w, Put(w.p, 0, 3), load(7)), accesses(w, Put(w.p, 1, 4), load(15))
	c := accesses(w, Put(w.p, 0, 5), load(7))
	b = accesses(w, b, store(16, 5))
	a = accesses(w, a, store(8, 4))
	comesTo(w, accesses(w, a, store(7, 1)), 1)
	c = accesses(w, c, store(8, 6))
	comesTo(w, accesses(w, b, store(15, 1)), 1)
	comesTo(w, accesses(w, c, store(7, 1)), 1)
	w.listIs(0, 5)
	w.listIs(1, 4)

	w = newWorld(t, of(2))
	w.putRetired(0, 4, 6)
	w.putRetired(1, 7)
	x, y := accesses(w, Scan(w.p, 0), load(7), load(9)), accesses(w, Scan(w.p, 1), load(15), load(16))
	x, y = accesses(w, x, loads(1, 6)...), accesses(w, y, loads(1, 6)...)
	y = accesses(w, y, store(15, 0))
	x = accesses(w, x, store(7, 1))
	r, _, _ := prog.Run(y, w.m, w.c, 99)
	w.is(r, 1)
	r, _, _ = prog.Run(x, w.m, w.c, 99)
	w.is(r, 2)
	w.freeIs(3, 5, 6)
}

// TestRegionsDoNotHangOnOneAnother: one program, in two regions, and two plans.
func TestRegionsDoNotHangOnOneAnother(t *testing.T) {
	p, other := of(1), plan.Plan{Nodes: 6, Threads: 2, Retire: 8, Domains: 2, Buckets: 3, Gen: 5}
	m, e := mem.New([]int{p.Size(), p.Size(), other.Size()})
	if e != api.OK {
		t.Fatal(e)
	}
	put, scan := Put(p, 0, 3), Scan(p, 0)
	for i, want := range []int{1, 2, 3} {
		if r, _, over := prog.Run(put, m, m.Cap(0), 99); r != want || !over {
			t.Errorf("Put %d: %d, over %v", i, r, over)
		}
	}
	prog.Run(put, m, m.Cap(1), 99)
	prog.Run(Put(other, 1, 5), m, m.Cap(2), 99)
	for region, want := range [][]int{{3, 3, 3}, {3}} {
		if l := List(p, m, region, 0); !slices.Equal(l, want) {
			t.Errorf("the region %d: %v; want %v", region, l, want)
		}
	}
	for region, want := range []int{3, 1} {
		if r, _, over := prog.Run(scan, m, m.Cap(region), 99); r != want || !over {
			t.Errorf("the region %d: Scan %d, over %v; want %d", region, r, over, want)
		}
	}
	if l := List(other, m, 2, 1); !slices.Equal(l, []int{5}) {
		t.Error(l)
	}
}

// TestRefusedBehindABump: a program whose capability isn't good any more stays as it
// is, and goes on by the good one.
func TestRefusedBehindABump(t *testing.T) {
	for i := range tasks(of(2)) {
		w := fixture(t)
		x := tasks(w.p)[i]
		first := w.words()
		whole, _ := w.steps(x.q)
		want := w.follows(whole, x.words)
		for stop := range whole {
			w.lay(first)
			q, old := w.behind(x.q, whole[:stop]), w.c
			c, e := w.m.Bump(mine)
			if e != api.OK {
				t.Fatal(e)
			}
			w.c = c
			w.refused(q, old)
			comesTo(w, w.behind(q, whole[stop:]), want)
		}
	}
}
