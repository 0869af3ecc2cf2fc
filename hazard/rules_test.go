package hazard

import (
	"math"
	"slices"
	"testing"

	"cubicle/api"
	"cubicle/mem"
	"cubicle/plan"
	"cubicle/prog"
)

// R1.

// notFormed are plans that aren't, each by one number at least.
func notFormed() []plan.Plan {
	l := []plan.Plan{
		{}, {Nodes: -1, Threads: -1, Retire: -1, Domains: -1, Buckets: -1, Gen: -1},
		{Nodes: 0, Threads: 1, Retire: 4, Buckets: 1, Gen: 9},
		{Nodes: 3, Threads: 1, Retire: 3, Buckets: 1, Gen: 9},
		{Nodes: 3, Threads: 1, Retire: 4, Buckets: 0, Gen: 9},
		{Nodes: 3, Threads: 1, Retire: 4, Buckets: 1, Gen: 0},
		{Nodes: 3, Threads: 1, Retire: 4, Domains: 65, Buckets: 1, Gen: 9},
	}
	for _, n := range []int{math.MinInt, math.MinInt + 1, -2, -1, 0, 17, 1 << 32, math.MaxInt/3 + 1, math.MaxInt - 1, math.MaxInt} {
		l = append(l, plan.Plan{Nodes: 3, Threads: n, Retire: 49, Buckets: 1, Gen: 9})
	}
	return l
}

// not are numbers of things that aren't there, if there are so many.
func not(many int) []int {
	return []int{-1, -2, many, many + 1, 1 << 32, 1<<32 + 1, math.MinInt, math.MinInt + 1, math.MaxInt - 1, math.MaxInt}
}

// refused asks whether the program isn't over, and its step is refused, again and
// again, and leaves it as it is.
func refused[R any](w *world, q prog.Prog[R]) {
	w.t.Helper()
	was, words, count := q, w.words(), w.m.Count()
	for range 3 {
		next, ok := q.Step(w.m, w.c)
		if _, over := next.Over(); ok || over {
			w.t.Errorf("%+v: a step is %v, over %v", w.p, ok, over)
		}
		a, _ := was.Access()
		if b, ok := next.Access(); a != b || !ok {
			w.t.Errorf("%+v: the access was %+v, and is %+v", w.p, a, b)
		}
		q = next
	}
	if _, n, over := prog.Run(q, w.m, w.c, math.MaxInt); n != 0 || over {
		w.t.Errorf("%+v: %d steps, over %v", w.p, n, over)
	}
	if w.m.Count() != count {
		w.t.Errorf("%+v: an access is done", w.p)
	}
	w.wordsAre(words)
}

// TestThreadsThatAreNotThere: no word is changed of them, nor of another's.
func TestThreadsThatAreNotThere(t *testing.T) {
	for _, p := range several() {
		w := newWorld(t, p)
		w.put(p.Head(), 3)
		for _, thread := range not(p.Threads) {
			for slot := range 3 {
				refused(w, Set(p, thread, slot, 0))
				refused(w, Set(p, thread, slot, api.None))
				refused(w, accesses(w, Guard(p, thread, slot, p.Head(), 0), load(p.Head())))
				comesTo(w, accesses(w, Guard(p, thread, slot, p.Head(), 2), load(p.Head())), 3)
			}
			refused(w, Clear(p, thread))
		}
	}
}

// TestSlotsThatAreNotThere: no word is changed of them, nor of another's.
func TestSlotsThatAreNotThere(t *testing.T) {
	for _, p := range several() {
		w := newWorld(t, p)
		w.put(p.Head(), 3)
		for _, slot := range not(3) {
			for thread := range p.Threads {
				refused(w, Set(p, thread, slot, 0))
				refused(w, Set(p, thread, slot, api.None))
				refused(w, accesses(w, Guard(p, thread, slot, p.Head(), 0), load(p.Head())))
				comesTo(w, accesses(w, Guard(p, thread, slot, p.Head(), 2), load(p.Head())), 3)
			}
		}
	}
}

// TestNodesThatAreNotThere: a Set of them stores one more than the number, as of
// others; none is held that is below 0, whatever the hazards are.
func TestNodesThatAreNotThere(t *testing.T) {
	for _, p := range several() {
		w := newWorld(t, p)
		first := p.Hazard(0, 0)
		for _, x := range []struct {
			n    int
			word uint64
		}{
			{p.Nodes, uint64(p.Nodes) + 1}, {p.Nodes + 1, uint64(p.Nodes) + 2}, {1 << 32, 1<<32 + 1},
			{math.MaxInt - 1, math.MaxInt}, {math.MaxInt, 1 << 63},
			{-1, 0}, {-2, ones}, {math.MinInt, 1<<63 + 1}, {math.MinInt + 1, 1<<63 + 2},
		} {
			w.putHazards(5)
			comesTo(w, accesses(w, Set(p, 0, 0, x.n), store(first, x.word)), prog.None{})
			w.putHazards(x.word)
			if x.n < 0 {
				w.heldIs(x.n, false, hazards(p))
			} else {
				w.heldIs(x.n, true, 1)
			}
			w.putHazards(x.word ^ 2)
			w.heldIs(x.n, false, hazards(p))
		}
	}
}

// TestPlacesThatAreNotThere: the Guard's first load is refused.
func TestPlacesThatAreNotThere(t *testing.T) {
	for _, p := range several() {
		w := newWorld(t, p)
		for _, at := range not(p.Size()) {
			for _, shift := range []int{0, 1, 63, 64, -1} {
				refused(w, Guard(p, 0, 0, at, shift))
			}
		}
	}
}

// TestShiftsThatNoWordHas: no word names a node by them.
func TestShiftsThatNoWordHas(t *testing.T) {
	w := newWorld(t, of(2))
	for _, shift := range append(not(64), -3, -63, -64, -65, 65, 127, 128, 256, 1<<16, 1<<31) {
		for _, word := range []uint64{0, 1, 2, 9, 1 << 21, 1 << 63, ones} {
			w.put(0, word)
			was := w.words()
			comesTo(w, accesses(w, Guard(w.p, 1, 2, 0, shift), load(0)), word)
			w.wordsAre(was)
		}
	}
}

// TestPlansThatAreNotFormed: nothing is done of them, but a Guard's load of a place,
// which isn't the plan's to tell.
func TestPlansThatAreNotFormed(t *testing.T) {
	w := newWorld(t, of(2))
	w.put(0, 3)
	for _, p := range notFormed() {
		for _, i := range append(not(p.Threads), 0, 1, 2) {
			for slot := range 3 {
				refused(w, Set(p, i, slot, 0))
				refused(w, accesses(w, Guard(p, i, slot, 0, 0), load(0)))
			}
			refused(w, Set(p, 0, i, 0))
			refused(w, Set(p, 0, 0, i))
			refused(w, Clear(p, i))
			refused(w, Held(p, i))
			refused(w, Guard(p, i, i, -1, 0))
		}
		comesTo(w, accesses(w, Guard(p, 0, 0, 0, 2), load(0)), 3)
	}
}

// TestWhateverWords: each step ends, none panics; a Guard is over behind three steps,
// and changes its own hazard alone.
func TestWhateverWords(t *testing.T) {
	d := drawn(10)
	for _, p := range []plan.Plan{of(1), of(2), {Nodes: 2, Threads: 5, Retire: 16, Domains: 3, Buckets: 5, Gen: 2}} {
		w := newWorld(t, p)
		for range 1000 {
			for at := range p.Size() {
				w.put(at, d.word()>>d.below(64))
			}
			thread, slot, at, shift := d.below(p.Threads), d.below(3), d.below(p.Size()), d.below(66)
			if at != p.Hazard(thread, slot) {
				w.guardEnds(thread, slot, at, shift)
			}
			w.heldEnds(d.below(p.Nodes))
			w.heldEnds(int(w.m.Peek(mine, p.Hazard(thread, slot))))
		}
	}
}

// guardEnds asks whether the Guard, alone, is over with the place's word.
func (w *world) guardEnds(thread, slot, at, shift int) {
	w.t.Helper()
	was, word := w.words(), w.m.Peek(mine, at)
	got, n, over := prog.Run(Guard(w.p, thread, slot, at, shift), w.m, w.c, 99)
	if name := word >> shift; name == 0 {
		w.wordsAre(was)
	} else {
		w.wordsAre(was, store(w.p.Hazard(thread, slot), name))
	}
	if want := 1 + 2*int(truth(word>>shift > 0)); got != word || n != want || !over {
		w.t.Errorf("%+v: Guard of %#x by %d: %#x, %d steps, over %v", w.p, word, shift, got, n, over)
	}
}

// heldEnds asks whether Held ends, with what the hazards tell.
func (w *world) heldEnds(n int) {
	w.t.Helper()
	want, steps := false, 0
	for i := 0; i < hazards(w.p) && !want; i++ {
		word := w.m.Peek(mine, place(w.p, i))
		want, steps = n >= 0 && word > 0 && word-1 == uint64(n), i+1
	}
	w.heldIs(n, want, steps)
}

// TestRegionsThatAreNotThere: no step is done in them.
func TestRegionsThatAreNotThere(t *testing.T) {
	w := newWorld(t, of(2))
	for _, region := range not(2) {
		for _, c := range []mem.Cap{w.m.Cap(region), {Region: region, Epoch: 1}, {Region: mine}, {Region: mine, Epoch: 2}} {
			w.c = c
			refused(w, Set(w.p, 0, 0, 1))
			refused(w, Clear(w.p, 1))
			refused(w, Guard(w.p, 0, 0, 0, 0))
			refused(w, Held(w.p, 1))
		}
	}
}

// TestRegionsThatAreTooSmall: what isn't there is refused.
func TestRegionsThatAreTooSmall(t *testing.T) {
	p := of(2)
	for size := range 8 {
		m, e := mem.New([]int{size})
		if e != api.OK {
			t.Fatal(e)
		}
		there := max(0, min(6, size-1))
		if held, n, over := prog.Run(Held(p, 4), m, m.Cap(0), 99); held || n != there || over != (there == 6) {
			t.Errorf("%d words: Held: %v, %d steps, over %v", size, held, n, over)
		}
		if _, n, over := prog.Run(Clear(p, 1), m, m.Cap(0), 99); n != max(0, there-3) || over != (there == 6) {
			t.Errorf("%d words: Clear: %d steps, over %v", size, n, over)
		}
		m.Do(m.Cap(0), store(0, 5))
		if word, n, over := prog.Run(Guard(p, 1, 2, 0, 0), m, m.Cap(0), 99); over != (there == 6) || over && (word != 5 || n != 3) {
			t.Errorf("%d words: Guard: %d, %d steps, over %v", size, word, n, over)
		}
	}
}

// TestRefusedBehindABump: a program whose capability isn't good any more stays as it
// is, and goes on by the good one.
func TestRefusedBehindABump(t *testing.T) {
	for stop := range 3 {
		w := newWorld(t, of(2))
		w.put(0, 5)
		g, h, c := stepped(w, Guard(w.p, 0, 1, 0, 0), stop), stepped(w, Held(w.p, 7), stop), stepped(w, Clear(w.p, 1), stop)
		good, e := w.m.Bump(mine)
		if e != api.OK {
			t.Fatal(e)
		}
		refused(w, g)
		refused(w, h)
		refused(w, c)
		refused(w, Set(w.p, 0, 0, 4))
		w.c = good
		comesTo(w, stepped(w, g, 3-stop), 5)
		comesTo(w, stepped(w, h, 6-stop), false)
		comesTo(w, stepped(w, c, 3-stop), prog.None{})
	}
}

// R5 and R7.

// TestSetAndClearRunAgain: from each of their steps, again and again.
func TestSetAndClearRunAgain(t *testing.T) {
	w := newWorld(t, of(2))
	set, row := Set(w.p, 1, 1, 4), clears(w.p, 1)
	for stop := range row {
		q := accesses(w, Clear(w.p, 1), row[:stop]...)
		for range 3 {
			comesTo(w, accesses(w, set, store(5, 5)), prog.None{})
			w.heldIs(4, true, 5)
			was := w.words()
			comesTo(w, accesses(w, q, row[stop:]...), prog.None{})
			w.wordsAre(was, row[stop:]...)
		}
	}
}

// TestHeldRunAgain: from each of its steps, with hazards that are others by then.
func TestHeldRunAgain(t *testing.T) {
	w := newWorld(t, of(2))
	w.putHazards(0)
	row := loads(w.p, 6)
	for stop := range row {
		q := accesses(w, Held(w.p, 4), row[:stop]...)
		for i := stop; i < 6; i++ {
			w.put(place(w.p, i), 5)
			comesTo(w, accesses(w, q, row[stop:i+1]...), true)
			w.put(place(w.p, i), 4)
			comesTo(w, accesses(w, q, row[stop:]...), false)
			if a, ok := q.Access(); a != row[stop] || !ok {
				t.Errorf("the access is %+v, %v", a, ok)
			}
		}
		w.putHazards(0)
	}
}

// TestGuardRunAgain: from each of its steps, with other words in the place.
func TestGuardRunAgain(t *testing.T) {
	w := newWorld(t, of(2))
	w.put(0, 4)
	var l []prog.Prog[uint64]
	for stop := range 3 {
		l = append(l, stepped(w, Guard(w.p, 1, 0, 0, 0), stop))
	}
	for _, word := range []uint64{4, 7, 0, 4, 4, 0, 7, 9} {
		w.put(0, word)
		one, two := []mem.Access{load(0)}, []mem.Access{store(4, 4), load(0)}
		if word != 0 {
			one = append(one, store(4, word), load(0))
		}
		if word != 0 && word != 4 {
			two = append(two, store(4, word), load(0))
		}
		for range 2 {
			comesTo(w, accesses(w, l[0], one...), word)
			comesTo(w, accesses(w, l[1], two...), word)
			comesTo(w, accesses(w, l[2], two[1:]...), word)
		}
	}
}

// TestGuardGoesOnTwice: behind a word that was another one, each time with its own.
func TestGuardGoesOnTwice(t *testing.T) {
	w := newWorld(t, of(1))
	w.put(0, 4)
	q := stepped(w, Guard(w.p, 0, 0, 0, 0), 2)
	w.put(0, 7)
	a := accesses(w, q, load(0))
	w.put(0, 8)
	b := accesses(w, q, load(0))
	a = accesses(w, a, store(1, 7))
	b = accesses(w, b, store(1, 8))
	comesTo(w, accesses(w, b, load(0)), 8)
	a = accesses(w, a, load(0), store(1, 8))
	comesTo(w, accesses(w, a, load(0)), 8)
	w.put(0, 4)
	comesTo(w, accesses(w, q, load(0)), 4)
}

// TestProgramsDoNotHangOnOneAnother: but by the memory: what one loaded is its own.
func TestProgramsDoNotHangOnOneAnother(t *testing.T) {
	w := newWorld(t, of(3))
	var l []prog.Prog[uint64]
	for thread := range 3 {
		w.put(0, uint64(thread+3))
		l = append(l, stepped(w, Guard(w.p, thread, thread, 0, 0), 1))
	}
	for thread, at := range []int{1, 5, 9} {
		l[thread] = accesses(w, l[thread], store(at, uint64(thread+3)))
	}
	w.put(0, 4)
	comesTo(w, accesses(w, l[1], load(0)), 4)
	comesTo(w, accesses(w, l[0], load(0), store(1, 4), load(0)), 4)
	w.put(0, 5)
	comesTo(w, accesses(w, l[2], load(0)), 5)
}

// TestRegionsDoNotHangOnOneAnother: one program, in two regions.
func TestRegionsDoNotHangOnOneAnother(t *testing.T) {
	p := of(2)
	m, e := mem.New([]int{p.Size(), p.Size()})
	if e != api.OK {
		t.Fatal(e)
	}
	set, held, guard := Set(p, 1, 2, 4), Held(p, 4), Guard(p, 0, 0, 0, 0)
	prog.Run(set, m, m.Cap(1), 99)
	m.Do(m.Cap(1), store(0, 8))
	for region, want := range []struct {
		held   bool
		word   uint64
		hazard []uint64
	}{{false, 0, []uint64{0, 0}}, {true, 8, []uint64{8, 5}}} {
		h, _, _ := prog.Run(held, m, m.Cap(region), 99)
		g, _, _ := prog.Run(guard, m, m.Cap(region), 99)
		now := []uint64{m.Peek(region, 1), m.Peek(region, 6)}
		if h != want.held || g != want.word || !slices.Equal(now, want.hazard) {
			t.Errorf("the region %d: Held %v, Guard %d, hazards %d", region, h, g, now)
		}
	}
}
