package check

import (
	"math"
	"slices"
	"testing"

	"cubicle/api"
	"cubicle/mem"
	"cubicle/plan"
	"cubicle/prog"
	"cubicle/state"
)

// R1.

// refused asks whether the program isn't over, and its step by the capability is
// refused, again and again, and leaves it as it is.
func (w *world) refused(q program, c mem.Cap) {
	w.t.Helper()
	was, words, count := q, w.words(), w.m.Count()
	for range 3 {
		next, ok := q.Step(w.m, c)
		if r, over := next.Over(); ok || over || r != done {
			w.t.Errorf("%+v: a step is %v, over %v, with %+v", w.p, ok, over, r)
		}
		a, _ := was.Access()
		if b, ok := next.Access(); a != b || !ok {
			w.t.Errorf("%+v: the access was %+v, and is %+v", w.p, a, b)
		}
		q = next
	}
	if r, n, over := prog.Run(q, w.m, c, math.MaxInt); r != done || n != 0 || over {
		w.t.Errorf("%+v: %+v, %d steps, over %v", w.p, r, n, over)
	}
	if w.m.Count() != count {
		w.t.Errorf("%+v: an access is done", w.p)
	}
	w.wordsAre(words)
}

// TestRegionsThatAreNotThere: no step is done there; what is told without a step is
// told all the same.
func TestRegionsThatAreNotThere(t *testing.T) {
	w := liveWorld(t, of(2))
	s := w.seat(6, 1)
	for _, region := range not(2) {
		for _, c := range []mem.Cap{{Region: region, Epoch: 1}, w.m.Cap(region), {Region: mine}, {Region: mine, Epoch: 2}} {
			w.refused(New(s), c)
			for _, x := range calls(s, named(1, 0, 6)) {
				w.refused(x.q, c)
			}
			for _, x := range calls(s, named(1, 0, 5)) {
				r, k, over := prog.Run(x.q, w.m, c, 9)
				is(w, r, badHandle)
				is(w, k, 0)
				is(w, over, true)
			}
		}
	}
}

// TestRegionsThatAreTooSmall: each call ends; what isn't there is refused.
func TestRegionsThatAreTooSmall(t *testing.T) {
	p := of(1)
	for size := range p.Size() {
		m, e := mem.New([]int{size})
		if e != api.OK {
			t.Fatal(e)
		}
		for n := range p.Nodes {
			for i, x := range append(calls(Seat{p, 1, 0}, named(n, 4, 1)), callNew(Seat{p, 1, 0})) {
				for at := range size {
					m.Do(m.Cap(0), store(at, 4|1<<30))
				}
				r, k, over := prog.Run(x.q, m, m.Cap(0), 999)
				if k > 99 || over && p.State(n) >= size && i < 13 {
					t.Errorf("%d words: %+v, %d steps, over %v", size, r, k, over)
				}
			}
		}
	}
}

// TestRegionsOfAnotherPlan: whatever words stand there, each step ends.
func TestRegionsOfAnotherPlan(t *testing.T) {
	w := freshWorld(t, of(1))
	d := drawn(13)
	for _, p := range several() {
		for range 40 {
			for at := range w.p.Size() {
				w.put(at, d.wild(w.p))
			}
			s := Seat{p, 2, p.Threads - 1}
			n := d.below(p.Nodes)
			for _, x := range append(calls(s, named(n, d.below(4), 2)), callNew(s)) {
				_, _, over := prog.Run(x.q, w.m, w.c, 1<<16)
				if a, ok := x.q.Access(); ok && a.At >= w.p.Size() && over {
					t.Errorf("%+v: over, of the place %d", p, a.At)
				}
			}
		}
	}
}

// TestHeadsThatNameNone: a New that pops a node that isn't there is refused.
func TestHeadsThatNameNone(t *testing.T) {
	for _, p := range several() {
		for _, word := range []uint64{uint64(p.Nodes) + 1, uint64(p.Nodes) + 2, 1<<21 - 1, ones} {
			w := newWorld(t, p)
			w.put(p.Head(), word)
			w.refused(w.accesses(New(w.seat(1, 0)), load(0)), w.c)
		}
	}
}

// full are words of a count for which there is no room.
func full(p plan.Plan) []uint64 {
	r := uint64(p.Retire)
	return []uint64{r, r + 1, 2 * r, 1 << 20, 1<<31 - 1, 1 << 31, 1<<32 - 1, 1 << 32, 1<<32 + 1, 1<<32 + r - 1,
		1<<63 - 1, 1 << 63, 1<<63 + 1, 1<<63 + r, ones - r, ones - 1, ones}
}

// noNames are retired words that name no node of the plan.
func noNames(p plan.Plan) []uint64 {
	n := uint64(p.Nodes)
	return []uint64{0, n + 1, n + 2, 1 << 21, 1 << 31, 1<<31 + 1, 1 << 32, 1<<32 + 1, 1<<32 + n, 1 << 63, 1<<63 + 1, 1<<63 + n, ones - 1, ones}
}

// wild is a word that a region may have, whatever it is.
func (d *drawn) wild(p plan.Plan) uint64 {
	switch d.below(8) {
	case 0:
		return noNames(p)[d.below(len(noNames(p)))]
	case 1:
		return full(p)[d.below(len(full(p)))]
	case 2:
		return noStates()[d.below(len(noStates()))]
	case 3:
		return stateWord(d.below(p.Gen+1), d.below(4), d.below(3))
	case 4:
		return stateWord(d.below(3), state.Live, state.Plain)
	case 5:
		return d.word() >> d.below(64)
	default:
		return uint64(d.below(p.Nodes+2)) | uint64(d.below(2)*d.below(9))<<21
	}
}

// putHead lets the head name a node of the plan, or, as often, none, by a tag that is
// drawn: where it names one that isn't there, a pop is refused.
func (d *drawn) putHead(w *world) {
	w.t.Helper()
	w.put(w.p.Head(), d.word()<<21|uint64(d.below(2)*d.below(w.p.Nodes+1)))
}

// handle is a word that is given for a handle's: in most cases that of a node's state.
func (d *drawn) handle(w *world, tenant int) uint64 {
	n := d.below(w.p.Nodes)
	switch d.below(8) {
	case 0:
		return d.word()
	case 1:
		return named(n, 0, tenant) ^ 1<<d.below(64)
	case 2:
		return named(n, d.below(4), d.below(64))
	}
	return named(n, int(w.word(w.p.State(n))&(1<<30-1)), tenant)
}

// drawnCall is a call of a kind that is drawn, of that word.
func (d *drawn) call(s Seat, h uint64) call {
	if d.below(8) == 0 {
		return callNew(s)
	}
	l := calls(s, h)
	return l[d.below(2)*d.below(len(l))]
}

// TestWhateverWords: each step ends, none panics; what the chapter says is done of
// whatever words, and no other word is changed.
func TestWhateverWords(t *testing.T) {
	d := drawn(13)
	for _, p := range []plan.Plan{of(1), of(2), {Nodes: 2, Threads: 5, Retire: 16, Domains: 3, Buckets: 5, Gen: 2}} {
		w, came := newWorld(t, p), map[api.Errno]int{}
		for range 600 {
			for at := range p.Size() {
				w.put(at, d.wild(p))
			}
			s := w.seat(tenants()[d.below(7)], d.below(p.Threads))
			for range 8 {
				d.putHead(w)
				came[w.does(d.call(s, d.handle(w, s.Tenant))).E]++
			}
		}
		for _, e := range []api.Errno{api.OK, api.ErrBadHandle, api.ErrQuota} {
			if came[e] < 50 {
				t.Errorf("%+v: %v", p, came)
			}
		}
	}
}

// TestWhateverArguments: each call of whatever seat, word and field is over, or has an
// access of the region, or one that is refused.
func TestWhateverArguments(t *testing.T) {
	w := liveWorld(t, of(2))
	words := w.words()
	numbers := []int{0, 1, 2, 3, 15, 16, 63, 64, -1, math.MinInt, math.MaxInt, 1 << 32}
	for _, p := range append(notFormed(), several()...) {
		for _, tenant := range numbers {
			for _, thread := range numbers {
				s := Seat{p, tenant, thread}
				for _, f := range numbers {
					for _, word := range []uint64{0, ones, named(0, 0, 1), named(api.MaxNodes-1, 0, 1)} {
						for _, q := range []program{New(s), Drop(s, word), Read(s, word, f), Write(s, word, f, 1), Swap(s, word, f, 0, 1)} {
							r, over := q.Over()
							if !s.Formed() && r != notForm {
								t.Fatalf("%+v: %+v, over %v", s, r, over)
							}
							if a, ok := q.Access(); ok == over || !over && (a.Op != mem.Load || a.At < 0 || a.At >= p.Size()) {
								t.Fatalf("%+v: %+v, %v, over %v", s, a, ok, over)
							}
						}
					}
				}
			}
		}
	}
	w.wordsAre(words)
}

// R5 and R7.

// fixture is a world of two threads, of which the first one retired as many nodes as
// it may, and the other one three; hazards hold two nodes of each. The node 15 alone
// is free; the nodes 13 and 14 are LIVE.
func fixture(t *testing.T) *world {
	w := newWorld(t, of(2))
	w.putRetired(0, 4, 6, 8, 2, 3, 1, 5)
	w.putRetired(1, 10, 11, 12)
	w.putHazards(0, 10, 0, 6, 3, 12)
	for n := range w.p.Nodes {
		w.putState(n, n%10, state.Retired, state.Plain)
	}
	w.putState(13, 3, state.Live, state.Plain)
	w.putState(14, 4, state.Live, state.Plain)
	w.put(w.p.Field(13, 0), 0)
	w.putFree(15)
	return w
}

// task is a call, in a fixture where a node is free or not.
type task struct {
	call
	empty bool
}

// tasks are of each call, with and without a Scan, of words that are good, and that
// aren't.
func tasks(p plan.Plan) []task {
	a, b := Seat{p, 7, 0}, Seat{p, 7, 1}
	l := []task{{callNew(a), false}, {callNew(a), true}, {callNew(b), true}}
	for _, x := range slices.Concat(calls(a, named(13, 3, 7)), calls(b, named(14, 4, 7)), calls(a, named(14, 3, 7)), calls(b, named(16, 3, 7))) {
		l = append(l, task{x, false})
	}
	return l
}

// begin is the task's world.
func (x task) begin(t *testing.T) *world {
	w := fixture(t)
	if x.empty {
		w.putFree()
	}
	return w
}

// behind is the program behind these accesses, which it must do.
func (w *world) behind(q program, l []did) program {
	w.t.Helper()
	for _, d := range l {
		q = w.accesses(q, d.a)
	}
	return q
}

// TestRunAgain: a program, and what is left of it behind each of its steps, may be run
// again and again, and does the same where the words are the same.
func TestRunAgain(t *testing.T) {
	for _, x := range tasks(of(2)) {
		w := x.begin(t)
		first := w.words()
		whole, _ := w.steps(x.q)
		want := w.follows(whole, x.words)
		last := w.words()
		for stop := range len(whole) + 1 {
			w.lay(first)
			q := w.behind(x.q, whole[:stop])
			words := w.words()
			for range 2 {
				w.lay(words)
				l, r := w.steps(q)
				if !slices.Equal(l, whole[stop:]) {
					t.Fatalf("behind %d steps: %+v; want %+v", stop, l, whole[stop:])
				}
				w.comesTo(r, want)
				w.wordsAre(last)
			}
		}
	}
}

// TestRunAgainWithOtherWords: what is left of a program behind each of its steps does
// what the chapter says of the words as they are then, each time.
func TestRunAgainWithOtherWords(t *testing.T) {
	d := drawn(13)
	for _, x := range tasks(of(2)) {
		w := x.begin(t)
		first := w.words()
		whole, _ := w.steps(x.q)
		for stop := range len(whole) + 1 {
			w.lay(first)
			q := w.behind(x.q, whole[:stop])
			a, busy := q.Access()
			for k := range 12 {
				for at := range w.p.Size() {
					if d.below(3) == 0 && (k%2 == 0 || at < w.p.State(13)) {
						w.put(at, d.wild(w.p))
					}
				}
				if k%4 == 3 {
					w.lay(first)
				}
				d.putHead(w)
				l, r := w.steps(q)
				w.comesTo(r, w.follows(slices.Concat(whole[:stop], l), x.words))
				if b, ok := q.Access(); a != b || ok != busy {
					t.Errorf("the access was %+v, and is %+v, %v", a, b, ok)
				}
			}
		}
	}
}

// TestNewRunAgain: one program is granted another node each time that it is run, from
// its beginning, and from behind its first load.
func TestNewRunAgain(t *testing.T) {
	w := freshWorld(t, of(1))
	x := callNew(w.seat(5, 0))
	for n := range w.p.Nodes {
		is(w, w.does(x), value(named(n, 0, 5)))
	}
	is(w, w.does(x), quota)
	is(w, w.does(callDrop(w.seat(5, 0), named(4, 0, 5))), done)
	is(w, w.does(x), value(named(4, 1, 5)))

	w = freshWorld(t, of(1))
	q := w.accesses(New(w.seat(5, 0)), load(0))
	for n := range w.p.Nodes {
		r, _, over := prog.Run(q, w.m, w.c, 99)
		is(w, r, value(named(n, 0, 5)))
		is(w, over, true)
	}
}

// TestOthersRunAgain: one program does what it does each time that it is run, as the
// words are then.
func TestOthersRunAgain(t *testing.T) {
	w := liveWorld(t, of(1))
	s, h := w.seat(5, 0), named(4, 0, 5)
	get, set, try, back := callRead(s, h, 1), callWrite(s, h, 1, 3), callSwap(s, h, 1, 3, 4), callDrop(s, h)
	for range 3 {
		is(w, w.does(set), done)
		is(w, w.does(get), value(3))
		is(w, w.does(try), value(1))
		is(w, w.does(get), value(4))
		is(w, w.does(try), done)
		is(w, w.does(get), value(4))
		is(w, w.does(back), done)
		for _, x := range []call{back, get, set, try} {
			is(w, w.does(x), badHandle)
		}
		w.putState(4, 0, state.Live, state.Plain)
	}
	w.listIs(0, 4, 4, 4)
}

// TestProgramsDoNotHangOnOneAnother: but by the memory: what one loaded is its own.
func TestProgramsDoNotHangOnOneAnother(t *testing.T) {
	w := freshWorld(t, of(2))
	w.putState(0, 4, state.Free, state.Plain)
	w.putState(1, 6, state.Free, state.Plain)
	s, r := w.seat(5, 0), w.seat(5, 1)
	a, b := w.accesses(New(s), load(0), load(24)), w.accesses(New(r), load(0), load(24))
	b = w.accesses(b, trySwap(0, 1, 2|1<<21), load(23))
	a = w.accesses(a, trySwap(0, 1, 2|1<<21), load(0), load(29), trySwap(0, 2|1<<21, 3|2<<21), load(28))
	w.isDone(b, value(named(0, 4, 5)), store(23, 4|1<<30))
	w.isDone(a, value(named(1, 6, 5)), store(28, 6|1<<30))

	set := w.accesses(Write(s, named(0, 4, 5), 0, 8), load(23), store(1, 1))
	get := w.accesses(Read(r, named(1, 6, 5), 1), load(28), store(4, 2), load(28))
	try := w.accesses(Swap(r, named(0, 4, 5), 0, 8, 9), load(23))
	set = w.accesses(set, load(23), store(25, 8))
	w.isDone(get, done, load(31), store(4, 0))
	w.isDone(try, value(1), store(4, 1), load(23), trySwap(25, 8, 9), store(4, 0))
	w.isDone(set, done, store(1, 0))

	x, y := w.accesses(Drop(s, named(1, 6, 5)), load(28)), w.accesses(Drop(r, named(0, 4, 5)), load(23))
	x = w.accesses(x, trySwap(28, 6|1<<30, 6|2<<30), load(7))
	y = w.accesses(y, trySwap(23, 4|1<<30, 4|2<<30), load(15), store(16, 1))
	w.isDone(w.accesses(x, store(8, 2)), done, store(7, 1))
	w.isDone(y, done, store(15, 1))
	w.listIs(0, 1)
	w.listIs(1, 0)
}

// TestRegionsDoNotHangOnOneAnother: one program, in two regions: what is done in the
// one isn't done in the other, whose tenant's handles have the same words.
func TestRegionsDoNotHangOnOneAnother(t *testing.T) {
	p := of(1)
	m, e := mem.New([]int{p.Size(), p.Size()})
	if e != api.OK {
		t.Fatal(e)
	}
	s, h := Seat{p, 3, 0}, named(2, 0, 3)
	m.Do(m.Cap(0), store(p.Head(), 3))
	m.Do(m.Cap(1), store(p.Head(), 3))
	get, set, grant, back := Read(s, h, 0), Write(s, h, 0, 6), New(s), Drop(s, h)
	for i, x := range []struct {
		q      program
		region int
		want   api.Res
	}{
		{get, 0, badHandle}, {grant, 0, value(h)}, {get, 1, badHandle}, {grant, 0, quota}, {grant, 1, value(h)},
		{set, 1, done}, {get, 0, done}, {get, 1, value(6)}, {back, 0, done}, {get, 0, badHandle}, {get, 1, value(6)},
		{back, 0, badHandle}, {grant, 0, value(named(2, 1, 3))}, {back, 1, done}, {set, 1, badHandle},
	} {
		if r, _, over := prog.Run(x.q, m, m.Cap(x.region), 99); r != x.want || !over {
			t.Errorf("%d: %+v, over %v; want %+v", i, r, over, x.want)
		}
	}
}

// TestRefusedBehindABump: a program whose capability isn't good any more stays as it
// is, and goes on by the good one.
func TestRefusedBehindABump(t *testing.T) {
	for _, x := range tasks(of(2)) {
		w := x.begin(t)
		first := w.words()
		whole, _ := w.steps(x.q)
		want := w.follows(whole, x.words)
		for stop := range whole {
			w.lay(first)
			q, old := w.behind(x.q, whole[:stop]), w.c
			c, e := w.m.Bump(mine)
			if e != api.OK {
				t.Fatal(e)
			}
			w.c = c
			w.refused(q, old)
			w.comesTo(w.behind(q, whole[stop:]), want)
		}
	}
}

// TestSeatsAreTheirOwn: a program isn't changed by what is done with the seat behind
// its making.
func TestSeatsAreTheirOwn(t *testing.T) {
	w := liveWorld(t, of(2))
	s := w.seat(5, 1)
	x := callWrite(s, named(4, 0, 5), 1, 3)
	s.Tenant, s.Thread, s.P = 9, 0, plan.Plan{}
	w.isDone(x.q, done, load(43), store(4, 5), load(43), store(46, 3), store(4, 0))
	w.atOnce(Write(s, named(4, 0, 5), 1, 3), notForm)
}
