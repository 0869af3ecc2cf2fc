package hazard

import (
	"math"
	"slices"
	"testing"

	"cubicle/api"
	"cubicle/mem"
	"cubicle/plan"
	"cubicle/prog"
)

const ones = math.MaxUint64

// mine is the region that a test's programs work in; the memory has another one of
// the same plan, ahead of it, which none of them may touch.
const mine = 1

// of is the least plan of so many threads: their hazards are at 1, 2, 3 and so on.
func of(threads int) plan.Plan {
	return plan.Plan{Nodes: 9, Threads: threads, Retire: 3*threads + 1, Buckets: 1, Gen: 9}
}

// several are plans of several numbers of threads, with other things ahead of them.
func several() []plan.Plan {
	return []plan.Plan{
		of(1), of(2), of(3), of(16),
		{Nodes: 1, Threads: 1, Retire: 4, Domains: 2, Buckets: 1, Gen: 1},
		{Nodes: 2, Threads: 5, Retire: 16, Domains: 3, Buckets: 5, Gen: 2},
		{Nodes: 41, Threads: 2, Retire: 1024, Domains: 64, Buckets: 7, Gen: api.MaxGen},
		{Nodes: 7, Threads: 16, Retire: 49, Domains: 1, Buckets: 2, Gen: 3},
	}
}

// world is a memory, with another word, not 0, at each place of both regions, that is
// greater than any node's number.
type world struct {
	t *testing.T
	p plan.Plan
	m *mem.Memory
	c mem.Cap
}

func newWorld(t *testing.T, p plan.Plan) *world {
	t.Helper()
	m, e := mem.New([]int{p.Size(), p.Size()})
	if e != api.OK {
		t.Fatal(p, e)
	}
	w := &world{t, p, m, m.Cap(mine)}
	for at := range p.Size() {
		w.put(at, 1<<40+uint64(at))
		m.Do(m.Cap(0), mem.Access{Op: mem.Store, At: at, A: 1<<41 + uint64(at)})
	}
	return w
}

// put stores the word at that place.
func (w *world) put(at int, word uint64) {
	if _, ok := w.m.Do(w.c, mem.Access{Op: mem.Store, At: at, A: word}); !ok {
		w.t.Fatalf("there is no place %d", at)
	}
}

// words are all words of both regions.
func (w *world) words() []uint64 {
	var l []uint64
	for r := range w.m.Regions() {
		for at := range w.m.Size(r) {
			l = append(l, w.m.Peek(r, at))
		}
	}
	return l
}

// wordsAre asks whether the words are as they were, but for what these stores did.
func (w *world) wordsAre(was []uint64, done ...mem.Access) {
	w.t.Helper()
	want := slices.Clone(was)
	for _, a := range done {
		if a.Op == mem.Store {
			want[w.m.Size(0)+a.At] = a.A
		}
	}
	if got := w.words(); !slices.Equal(got, want) {
		w.t.Errorf("%+v: the words are %v; want %v", w.p, got, want)
	}
}

// hazards is how many hazards the plan has.
func hazards(p plan.Plan) int { return 3 * p.Threads }

// place is where the hazard is, where all threads' are counted in a row.
func place(p plan.Plan, i int) int { return p.Hazard(0, 0) + i }

// putHazards stores the word in all hazards.
func (w *world) putHazards(word uint64) {
	for i := range hazards(w.p) {
		w.put(place(w.p, i), word)
	}
}

func load(at int) mem.Access            { return mem.Access{Op: mem.Load, At: at} }
func store(at int, w uint64) mem.Access { return mem.Access{Op: mem.Store, At: at, A: w} }

// loads are loads of the first so many hazards, in order.
func loads(p plan.Plan, many int) []mem.Access {
	var l []mem.Access
	for i := range many {
		l = append(l, load(place(p, i)))
	}
	return l
}

// accesses asks whether the program's next accesses are these, does them, and is the
// program that goes on.
func accesses[R any](w *world, q prog.Prog[R], want ...mem.Access) prog.Prog[R] {
	w.t.Helper()
	for i, a := range want {
		if got, ok := q.Access(); got != a || !ok {
			w.t.Fatalf("%+v: the access %d is %+v, %v; want %+v", w.p, i, got, ok, a)
		}
		if r, over := q.Over(); over {
			w.t.Fatalf("%+v: over, with %v, ahead of the access %d", w.p, r, i)
		}
		count := w.m.Count()
		next, ok := q.Step(w.m, w.c)
		if !ok || w.m.Count() != count+1 {
			w.t.Fatalf("%+v: the step %d: %v, %d accesses", w.p, i, ok, w.m.Count()-count)
		}
		q = next
	}
	return q
}

// comesTo asks whether the program is over, with that.
func comesTo[R comparable](w *world, q prog.Prog[R], want R) {
	w.t.Helper()
	if r, over := q.Over(); r != want || !over {
		w.t.Errorf("%+v: it comes to %v, over %v; want %v", w.p, r, over, want)
	}
	if a, ok := q.Access(); ok {
		w.t.Errorf("%+v: it is over, and has the access %+v", w.p, a)
	}
}

// stepped is the program behind so many steps.
func stepped[R any](w *world, q prog.Prog[R], steps int) prog.Prog[R] {
	w.t.Helper()
	for i := range steps {
		next, ok := q.Step(w.m, w.c)
		if !ok {
			w.t.Fatalf("%+v: the step %d is refused", w.p, i)
		}
		q = next
	}
	return q
}

// P10.1: Set.

// TestSetByHand is a plan of two threads, whose accesses are told by numbers.
func TestSetByHand(t *testing.T) {
	w := newWorld(t, of(2))
	comesTo(w, accesses(w, Set(w.p, 0, 0, 0), store(1, 1)), prog.None{})
	comesTo(w, accesses(w, Set(w.p, 0, 2, 8), store(3, 9)), prog.None{})
	comesTo(w, accesses(w, Set(w.p, 1, 0, 3), store(4, 4)), prog.None{})
	comesTo(w, accesses(w, Set(w.p, 1, 2, 1), store(6, 2)), prog.None{})
	comesTo(w, accesses(w, Set(w.p, 0, 2, api.None), store(3, 0)), prog.None{})
	for at, want := range []uint64{1 << 40, 1, 1<<40 + 2, 0, 4, 1<<40 + 5, 2, 1<<40 + 7} {
		if got := w.m.Peek(mine, at); got != want {
			t.Errorf("the word %d is %d; want %d", at, got, want)
		}
	}
}

// TestSet: the one access, and each word of the memory behind it, of each hazard.
func TestSet(t *testing.T) {
	for _, p := range several() {
		w := newWorld(t, p)
		for i := range hazards(p) {
			for _, n := range []int{0, p.Nodes / 2, p.Nodes - 1, api.None, 0, api.None} {
				was, a := w.words(), store(place(p, i), uint64(n+1))
				comesTo(w, accesses(w, Set(p, i/3, i%3, n), a), prog.None{})
				w.wordsAre(was, a)
			}
		}
	}
}

// TestSetIsOneStep: it is over behind that, and not ahead of it.
func TestSetIsOneStep(t *testing.T) {
	w := newWorld(t, of(3))
	for _, most := range []int{-1, 0, 1, 2, 9} {
		_, n, over := prog.Run(Set(w.p, 2, 1, 4), w.m, w.c, most)
		if want := min(1, max(0, most)); n != want || over != (want == 1) {
			t.Errorf("%d steps at most: %d, over %v", most, n, over)
		}
	}
}

// TestGreatestNode: the last node's number, and one more, have room in a hazard.
func TestGreatestNode(t *testing.T) {
	p := plan.Plan{Nodes: api.MaxNodes, Threads: 1, Retire: 4, Buckets: 1, Gen: 9}
	m, e := mem.New([]int{p.Size()})
	if e != api.OK {
		t.Fatal(e)
	}
	w := &world{t, p, m, m.Cap(0)}
	comesTo(w, accesses(w, Held(p, 1048575), loads(p, 3)...), false)
	comesTo(w, accesses(w, Set(p, 0, 1, 1048575), store(2, 1048576)), prog.None{})
	comesTo(w, accesses(w, Held(p, 1048575), loads(p, 2)...), true)
	comesTo(w, accesses(w, Held(p, 1048574), loads(p, 3)...), false)
	w.put(p.Head(), 1048576<<21|5)
	comesTo(w, accesses(w, Guard(p, 0, 2, 0, 21), load(0), store(3, 1048576), load(0)), 1048576<<21|5)
}

// P10.1: Clear.

// clears are what Clear of the thread must do.
func clears(p plan.Plan, thread int) []mem.Access {
	first := place(p, 3*thread)
	return []mem.Access{store(first, 0), store(first+1, 0), store(first+2, 0)}
}

func TestClearByHand(t *testing.T) {
	w := newWorld(t, of(2))
	comesTo(w, accesses(w, Clear(w.p, 1), store(4, 0), store(5, 0), store(6, 0)), prog.None{})
	comesTo(w, accesses(w, Clear(w.p, 0), store(1, 0), store(2, 0), store(3, 0)), prog.None{})
}

// TestClear: the accesses, and each word of the memory behind each of them; others'
// hazards name nodes still.
func TestClear(t *testing.T) {
	for _, p := range several() {
		for thread := range p.Threads {
			w := newWorld(t, p)
			for i := range hazards(p) {
				w.put(place(p, i), uint64(1+i%p.Nodes))
			}
			was, q, row := w.words(), Clear(p, thread), clears(p, thread)
			for i, a := range row {
				q = accesses(w, q, a)
				w.wordsAre(was, row[:i+1]...)
			}
			comesTo(w, q, prog.None{})
			comesTo(w, accesses(w, Clear(p, thread), row...), prog.None{})
			w.wordsAre(was, row...)
		}
	}
}

// TestClearIsThreeSteps: it is over behind these, and not ahead of them.
func TestClearIsThreeSteps(t *testing.T) {
	for _, p := range several() {
		w := newWorld(t, p)
		for most := -1; most < 6; most++ {
			_, n, over := prog.Run(Clear(p, p.Threads-1), w.m, w.c, most)
			if want := min(3, max(0, most)); n != want || over != (want == 3) {
				t.Errorf("%+v: %d steps at most: %d, over %v", p, most, n, over)
			}
		}
	}
}

// P10.1: Held.

// heldIs asks what Held comes to, behind so many loads, of the first hazards, in
// order; no word is changed.
func (w *world) heldIs(n int, want bool, steps int) {
	w.t.Helper()
	was := w.words()
	comesTo(w, accesses(w, Held(w.p, n), loads(w.p, steps)...), want)
	w.wordsAre(was)
}

func TestHeldByHand(t *testing.T) {
	w := newWorld(t, of(2))
	for at, word := range []uint64{3, 0, 9, 1, 5, 0, 3, 4} {
		w.put(at, word)
	}
	q := accesses(w, Held(w.p, 4), load(1), load(2), load(3), load(4))
	comesTo(w, q, true)
	for n, steps := range []int{3, 6, 6, 6, 4, 6, 6, 6, 2} {
		w.heldIs(n, n == 0 || n == 2 || n == 4 || n == 8, steps)
	}
	w.put(6, 0)
	w.heldIs(2, false, 6)
}

// others are words of hazards that don't name the node n.
func others(p plan.Plan, n int) []uint64 {
	name := uint64(n + 1)
	return []uint64{0, name - 1, name + 1, 2 * name, uint64(p.Nodes) + 1, uint64(p.Nodes) + name,
		name + 1<<20, name + 1<<21, name + 1<<31, name + 1<<32, name + 1<<63, ^name, -name, 1 << 63, ones}
}

// some are nodes of the plan's.
func some(p plan.Plan) []int {
	return slices.Compact([]int{0, p.Nodes / 2, p.Nodes - 1})
}

// TestHeldByNone: all hazards are loaded, whatever else they are.
func TestHeldByNone(t *testing.T) {
	for _, p := range several() {
		w := newWorld(t, p)
		for _, n := range some(p) {
			row := others(p, n)
			for _, word := range row {
				w.putHazards(word)
				w.heldIs(n, false, hazards(p))
			}
			for i := range hazards(p) {
				w.put(place(p, i), row[i%len(row)])
			}
			w.heldIs(n, false, hazards(p))
		}
	}
}

// TestHeldByOne: it is each of the hazards, the first one and the last one too.
func TestHeldByOne(t *testing.T) {
	for _, p := range several() {
		w := newWorld(t, p)
		for _, n := range some(p) {
			row := others(p, n)
			for i := range hazards(p) {
				w.putHazards(row[i%len(row)])
				w.put(place(p, i), uint64(n+1))
				w.heldIs(n, true, i+1)
			}
		}
	}
}

// TestHeldBySeveral: it is over behind the first one of them.
func TestHeldBySeveral(t *testing.T) {
	for _, p := range several() {
		w := newWorld(t, p)
		for _, n := range some(p) {
			w.putHazards(uint64(n + 1))
			for i := range hazards(p) {
				w.heldIs(n, true, i+1)
				w.put(place(p, i), uint64(n))
			}
			w.heldIs(n, false, hazards(p))
		}
	}
}

// TestHeldOfEachNode: behind Sets of all hazards, and behind the Clear of each thread.
func TestHeldOfEachNode(t *testing.T) {
	for _, p := range several() {
		w := newWorld(t, p)
		set := make([]int, hazards(p))
		for i := range set {
			set[i] = 2 * i % p.Nodes
			prog.Run(Set(p, i/3, i%3, set[i]), w.m, w.c, 1)
		}
		for thread := range p.Threads + 1 {
			for n := range p.Nodes {
				if i := slices.Index(set, n); i >= 0 {
					w.heldIs(n, true, i+1)
				} else {
					w.heldIs(n, false, hazards(p))
				}
			}
			if thread < p.Threads {
				prog.Run(Clear(p, thread), w.m, w.c, 3)
				copy(set[3*thread:], []int{api.None, api.None, api.None})
			}
		}
	}
}

// TestHeldWhileHazardsChange: each hazard counts as it is when it is loaded.
func TestHeldWhileHazardsChange(t *testing.T) {
	w := newWorld(t, of(2))
	row := loads(w.p, 6)
	for i := range 6 {
		w.putHazards(7)
		w.put(place(w.p, i), 5)
		q := accesses(w, Held(w.p, 4), row[:i]...)
		w.put(place(w.p, i), 0)
		if i > 0 {
			w.put(place(w.p, i-1), 5)
		}
		comesTo(w, accesses(w, q, row[i:]...), false)

		w.putHazards(7)
		q = accesses(w, Held(w.p, 4), row[:i]...)
		w.put(place(w.p, i), 5)
		comesTo(w, accesses(w, q, row[i]), true)
	}
}

// P10.2.

// TestExample: Guard of a word 0: one step; of another one, that stays: three.
func TestExample(t *testing.T) {
	w := newWorld(t, of(1))
	at := w.p.Field(0, 0)
	w.put(at, 0)
	comesTo(w, accesses(w, Guard(w.p, 0, 0, at, 0), load(at)), 0)
	w.put(at, 4)
	comesTo(w, accesses(w, Guard(w.p, 0, 0, at, 0), load(at), store(1, 4), load(at)), 4)
}

// shifts are those by which words name nodes.
func shifts() []int { return []int{0, 1, 2, 3, 7, 20, 21, 22, 31, 32, 33, 40, 62, 63} }

// spots are places that a Guard may look at: of the head, of cells, of others'
// hazards, of retired nodes, and of nodes, up to the region's last one.
func spots(p plan.Plan) []int {
	l := []int{p.Head(), p.Cell(0, 1), p.Count(0), p.Retired(0, 3), p.State(0), p.Next(0), p.Field(0, 0), p.Size() - 1}
	if p.Threads > 1 {
		l = append(l, p.Hazard(p.Threads-1, 0))
	}
	return slices.DeleteFunc(l, func(at int) bool { return at == api.None })
}

// TestGuardOfNone: a word below 2^shift names no node: it is over with it, behind its
// one load; no word is changed.
func TestGuardOfNone(t *testing.T) {
	for _, p := range several() {
		w := newWorld(t, p)
		for _, shift := range shifts() {
			for _, word := range []uint64{0, 1, 2, 1<<shift/2 + 1, 1<<shift - 1} {
				if word >= 1<<shift {
					continue
				}
				for _, at := range spots(p) {
					w.put(at, word)
					was := w.words()
					comesTo(w, accesses(w, Guard(p, 0, 1, at, shift), load(at)), word)
					w.wordsAre(was)
				}
			}
		}
	}
}

// below are words below 2^shift.
func below(shift int) []uint64 {
	return slices.Compact([]uint64{0, (1<<shift - 1) / 2, 1<<shift - 1})
}

// TestGuardOfAWordThatStays: a load, a store of the hazard, a load, and each word of
// the memory behind each of them.
func TestGuardOfAWordThatStays(t *testing.T) {
	for _, p := range several() {
		w := newWorld(t, p)
		for k, shift := range shifts() {
			for _, name := range []uint64{1, uint64(p.Nodes), uint64(p.Nodes/2 + 1)} {
				if name<<shift>>shift != name {
					continue
				}
				for i, low := range below(shift) {
					thread, slot := (k+i)%p.Threads, (k+i)%3
					at := spots(p)[(k+i)%7]
					w.put(at, name<<shift|low)
					guardStays(w, Guard(p, thread, slot, at, shift), place(p, 3*thread+slot), at, name)
				}
			}
		}
	}
}

// guardStays asks whether the Guard of a place whose word stays does what it must, by
// the hazard at that place, where the word names the node so.
func guardStays(w *world, q prog.Prog[uint64], hazard, at int, name uint64) {
	w.t.Helper()
	was, word := w.words(), w.m.Peek(mine, at)
	q = accesses(w, q, load(at))
	w.wordsAre(was)
	q = accesses(w, q, store(hazard, name))
	w.wordsAre(was, store(hazard, name))
	q = accesses(w, q, load(at))
	w.wordsAre(was, store(hazard, name))
	comesTo(w, q, word)
}

// TestGuardOfEachHazardAndPlace: of each thread, by each of its slots.
func TestGuardOfEachHazardAndPlace(t *testing.T) {
	for _, p := range several() {
		w := newWorld(t, p)
		for i := range hazards(p) {
			for _, at := range spots(p) {
				if at == place(p, i) {
					continue
				}
				w.put(at, uint64(2*(i%p.Nodes)+3))
				guardStays(w, Guard(p, i/3, i%3, at, 1), place(p, i), at, uint64(i%p.Nodes+1))
			}
		}
	}
}

// TestGuardOfAWordWithoutShift: the whole word is one more than the node's number,
// however great it is.
func TestGuardOfAWordWithoutShift(t *testing.T) {
	w := newWorld(t, of(2))
	for _, word := range []uint64{1, 2, 9, 10, 11, 1 << 20, 1 << 21, 1<<32 + 1, 1<<63 - 1, 1 << 63, 1<<63 + 1, ones - 1, ones} {
		w.put(0, word)
		guardStays(w, Guard(w.p, 1, 1, 0, 0), 5, 0, word)
	}
}

// TestGuardByTheGreatestShifts: few words name a node then.
func TestGuardByTheGreatestShifts(t *testing.T) {
	w := newWorld(t, of(2))
	for _, x := range []struct {
		shift      int
		word, name uint64
	}{
		{21, 1 << 21, 1}, {21, 1<<22 - 1, 1}, {21, 1 << 22, 2}, {21, 3<<21 + 77, 3}, {21, ones, 1<<43 - 1},
		{62, 1 << 62, 1}, {62, 1 << 63, 2}, {62, ones, 3}, {63, 1 << 63, 1}, {63, 1<<63 + 1, 1}, {63, ones, 1},
	} {
		w.put(0, x.word)
		guardStays(w, Guard(w.p, 0, 2, 0, x.shift), 3, 0, x.name)
	}
}

// seen lets the place have these words at the Guard's loads, one behind the other,
// and asks whether it stores these hazards between, and is over with the last word.
func (w *world) seen(shift int, words, stored []uint64) {
	w.t.Helper()
	at, was := w.p.Field(3, 1), uint64(77)
	w.put(2, was)
	q := Guard(w.p, 0, 1, at, shift)
	for i, word := range words {
		w.put(at, word)
		q = accesses(w, q, load(at))
		w.hazardIs(was)
		if i < len(stored) {
			w.put(at, ones-uint64(i)) // it is back ahead of the next load
			q = accesses(w, q, store(2, stored[i]))
			was = stored[i]
		}
		w.hazardIs(was)
	}
	comesTo(w, q, words[len(words)-1])
}

// hazardIs asks for the word of the thread 0's hazard 1, and whether the others are as
// they were.
func (w *world) hazardIs(want uint64) {
	w.t.Helper()
	for at := 1; at < 7; at++ {
		if got := w.m.Peek(mine, at); at == 2 && got != want || at != 2 && got != 1<<40+uint64(at) {
			w.t.Errorf("the hazard at %d is %d; that at 2 must be %d", at, got, want)
		}
	}
}

// TestGuardOfAWordThatChanges: the hazard behind each step, once and several times.
func TestGuardOfAWordThatChanges(t *testing.T) {
	w := newWorld(t, of(2))
	for _, x := range []struct {
		shift         int
		words, stored []uint64
	}{
		{0, []uint64{4, 7, 7}, []uint64{4, 7}},                         // another node
		{1, []uint64{9, 8, 8}, []uint64{4, 4}},                         // the same node
		{1, []uint64{8, 9, 9}, []uint64{4, 4}},                         // the same node
		{0, []uint64{4, 0}, []uint64{4}},                               // none
		{1, []uint64{9, 0}, []uint64{4}},                               // none
		{1, []uint64{9, 1}, []uint64{4}},                               // none, and not 0
		{21, []uint64{5 << 21, 1<<21 - 1}, []uint64{5}},                // none, and not 0
		{63, []uint64{ones, 1<<63 - 1}, []uint64{1}},                   // none, and not 0
		{0, []uint64{4, 4}, []uint64{4}},                               // back to the first one, ahead of the load
		{0, []uint64{4, 7, 4, 4}, []uint64{4, 7, 4}},                   // back to the first one, behind another
		{0, []uint64{4, 7, 4, 7, 7}, []uint64{4, 7, 4, 7}},             // to and fro
		{1, []uint64{9, 8, 9, 9}, []uint64{4, 4, 4}},                   // to and fro, the same node
		{0, []uint64{1, 2, 3, 4, 5, 5}, []uint64{1, 2, 3, 4, 5}},       // several
		{0, []uint64{9, 8, 7, 0}, []uint64{9, 8, 7}},                   // several, and then none
		{3, []uint64{8, 9, 16, 25, 7}, []uint64{1, 1, 2, 3}},           // several, and then none
		{63, []uint64{ones, 1 << 63, 1 << 63}, []uint64{1, 1}},         // the same node
		{0, []uint64{ones, 1 << 63, 1 << 63}, []uint64{ones, 1 << 63}}, // nodes that no plan has
		{64, []uint64{ones}, nil},
	} {
		w.seen(x.shift, x.words, x.stored)
	}
}

// guarded is what a Guard must store, of a place that has these words at its loads,
// of which the last two are the same, and how many loads it does.
func guarded(shift int, words []uint64) ([]uint64, int) {
	var stored []uint64
	for i, word := range words {
		if i > 0 && word == words[i-1] || word>>shift == 0 {
			return stored, i + 1
		}
		stored = append(stored, word>>shift)
	}
	return stored, len(words)
}

// TestGuardOfManyChanges: of words that are drawn by a fixed rule.
func TestGuardOfManyChanges(t *testing.T) {
	w := newWorld(t, of(2))
	d := drawn(10)
	most := 0
	for range 3000 {
		shift := shifts()[d.below(len(shifts()))]
		var words []uint64
		for range 1 + d.below(12) {
			words = append(words, d.word()>>d.below(64))
		}
		words = append(words, words[len(words)-1])
		stored, n := guarded(shift, words)
		w.seen(shift, words[:n], stored)
		most = max(most, n)
	}
	if most < 10 {
		t.Errorf("%d loads at most: the words are too tame", most)
	}
}

// TestGuardGoesOnAsLongAsTheWordChanges: however often that is.
func TestGuardGoesOnAsLongAsTheWordChanges(t *testing.T) {
	w := newWorld(t, of(1))
	w.put(0, 1)
	q := accesses(w, Guard(w.p, 0, 0, 0, 0), load(0))
	for word := uint64(1); word < 5000; word++ {
		q = accesses(w, q, store(1, word))
		w.put(0, word+1)
		q = accesses(w, q, load(0))
	}
	comesTo(w, accesses(w, q, store(1, 5000), load(0)), 5000)
}

// TestGuardOfItsOwnHazard: its store changes the place, but without a shift.
func TestGuardOfItsOwnHazard(t *testing.T) {
	w := newWorld(t, of(1))
	w.put(3, 6)
	comesTo(w, accesses(w, Guard(w.p, 0, 2, 3, 0), load(3), store(3, 6), load(3)), 6)
	q := accesses(w, Guard(w.p, 0, 2, 3, 1), load(3), store(3, 3), load(3), store(3, 1), load(3))
	comesTo(w, q, 1)
}

// drawn is a fixed row of numbers that look as if they were drawn.
type drawn uint64

func (d *drawn) below(n int) int {
	*d = *d*6364136223846793005 + 1442695040888963407
	return int(uint64(*d) >> 33 % uint64(n))
}

func (d *drawn) word() uint64 {
	return uint64(d.below(1<<31))<<33 ^ uint64(d.below(1<<31))<<10 ^ uint64(d.below(1<<31))
}
