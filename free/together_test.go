package free

import (
	"math"
	"slices"
	"strings"
	"testing"

	"cubicle/api"
	"cubicle/mem"
	"cubicle/plan"
	"cubicle/prog"
)

// P9.4.

// one is a thread that pops, and pushes what it popped. It is a value: a copy of it
// goes on from where it was.
type one struct {
	jobs  string // what is left to do: + a Pop, - a Push of the node that it has longest
	q     prog.Prog[int]
	at    byte // what q is: +, -, or 0 of none
	has   []int
	steps int // how many q has done
	anew  int // how often one began anew
}

// begin takes the next thing to do, if it is at none; it is whether it is at one then.
func (o *one) begin(p plan.Plan) bool {
	for o.at == 0 && o.jobs != "" {
		job := o.jobs[0]
		o.jobs = o.jobs[1:]
		switch {
		case job == '+':
			o.q, o.at, o.steps = Pop(p), job, 0
		case len(o.has) > 0:
			o.q, o.at, o.steps = Push(p, o.has[0]), job, 0
		}
	}
	return o.at != 0
}

// step does one step of it in the world.
func (o *one) step(w *world) {
	q, ok := o.q.Step(w.m, w.c)
	if !ok {
		w.t.Fatalf("%+v: a step of %c is refused", w.p, o.at)
	}
	o.q, o.steps = q, o.steps+1
	n, over := q.Over()
	if !over {
		if o.steps%3 == 0 {
			o.anew++
		}
		return
	}
	switch {
	case o.at == '-' && n == o.has[0]:
		o.has = slices.Clone(o.has[1:])
	case o.at == '+' && n != api.None:
		o.has = append(slices.Clone(o.has), n)
	case o.at == '+' && len(List(w.p, w.m, mine)) == 0:
	default:
		w.t.Errorf("%+v: %c comes to %d; the list is %v", w.p, o.at, n, List(w.p, w.m, mine))
	}
	o.at = 0
}

// whole asks whether each node is had by one thread, once, or is in the list, once.
func (w *world) whole(crew []one) {
	l := List(w.p, w.m, mine)
	for _, o := range crew {
		l = append(l, o.has...)
	}
	slices.Sort(l)
	if !slices.Equal(l, all(w.p)) {
		w.t.Fatalf("%+v: the list is %v, the threads have %v", w.p, List(w.p, w.m, mine), had(crew))
	}
}

func had(crew []one) [][]int {
	var l [][]int
	for _, o := range crew {
		l = append(l, o.has)
	}
	return l
}

// orders does the crew's steps in all orders, and is how many these are, and how
// often one began anew in them, all together.
func (w *world) orders(crew []one) (int, int) {
	w.whole(crew)
	ends, anew := 0, 0
	for i := range crew {
		next := slices.Clone(crew)
		o := &next[i]
		if !o.begin(w.p) {
			continue
		}
		a, _ := o.q.Access()
		was := w.m.Peek(mine, a.At)
		o.step(w)
		n, k := w.orders(next)
		ends, anew = ends+n, anew+k
		w.put(a.At, was) // a step changes that word alone
	}
	if ends > 0 {
		return ends, anew
	}
	for _, o := range crew {
		anew += o.anew
	}
	return 1, anew
}

// TestAllOrders: of a few steps of two and three threads.
func TestAllOrders(t *testing.T) {
	rows := []struct {
		nodes int
		jobs  []string
	}{
		{1, []string{"+", "+"}},
		{1, []string{"+-", "+-"}},
		{2, []string{"+-", "+-"}},
		{3, []string{"+-", "+-"}},
		{2, []string{"+", "+-+"}},
		{2, []string{"+", "++-"}},
		{3, []string{"+", "++-"}},
		{3, []string{"+", "++--"}},
		{1, []string{"+", "+", "+"}},
		{2, []string{"+", "+", "+"}},
		{3, []string{"+", "+", "+"}},
		{1, []string{"+-", "+", "+"}},
	}
	for _, x := range rows {
		var crew []one
		for _, jobs := range x.jobs {
			crew = append(crew, one{jobs: jobs})
		}
		ends, anew := freshWorld(t, of(x.nodes)).orders(crew)
		if ends < 10 || anew == 0 {
			t.Errorf("%d nodes, %q: %d orders, %d times anew", x.nodes, x.jobs, ends, anew)
		}
	}
}

// TestAllOrdersOfPushes: threads that have a node already push it, all at once.
func TestAllOrdersOfPushes(t *testing.T) {
	for _, crew := range [][]one{
		{{jobs: "-", has: []int{1}}, {jobs: "-", has: []int{3}}},
		{{jobs: "-+", has: []int{1}}, {jobs: "-+", has: []int{3}}},
		{{jobs: "-", has: []int{1}}, {jobs: "-", has: []int{3}}, {jobs: "+"}},
		{{jobs: "--", has: []int{3, 1}}, {jobs: "++"}},
	} {
		w := chained(t, of(4), mostTag-1, 0, 2)
		if ends, anew := w.orders(crew); ends < 10 || anew == 0 {
			t.Errorf("%v: %d orders, %d times anew", had(crew), ends, anew)
		}
	}
}

// jobs is a fixed row of so many things to do.
func (d *drawn) jobs(n int) string {
	var b strings.Builder
	for range n {
		b.WriteByte("+-"[d.below(2)])
	}
	return b.String()
}

// crew is so many threads, each with so many things to do.
func (d *drawn) crew(threads, n int) []one {
	var l []one
	for range threads {
		l = append(l, one{jobs: d.jobs(n)})
	}
	return l
}

// play picks threads, each for up to most steps at a time, till none has anything to
// do, and asks at each step whether all is whole.
func (d *drawn) play(w *world, crew []one, most int) {
	w.t.Helper()
	for left := len(crew); left > 0; {
		o := &crew[d.below(len(crew))]
		for range 1 + d.below(most) {
			if o.begin(w.p) {
				o.step(w)
				w.whole(crew)
			}
		}
		left = 0
		for i := range crew {
			if crew[i].begin(w.p) {
				left++
			}
		}
	}
}

// TestManyOrders: drawn by a fixed rule, of several threads and nodes.
func TestManyOrders(t *testing.T) {
	anew := 0
	for _, nodes := range []int{1, 2, 3, 5, 20} {
		for _, threads := range []int{2, 3, 5, 16} {
			for _, most := range []int{1, 2, 4, 9} {
				d := drawn(nodes<<16 + threads<<8 + most)
				w, crew := freshWorld(t, of(nodes)), d.crew(threads, 60)
				d.play(w, crew, most)
				for _, o := range crew {
					anew += o.anew
				}
			}
		}
	}
	if anew < 1000 {
		t.Errorf("%d times anew: the orders are too tame", anew)
	}
}

// standing are programs that stand still, with a node that is theirs.
func standing(p plan.Plan) []one {
	return []one{
		{q: Pop(p), at: '+'},
		{q: Pop(p), at: '+', has: []int{4}},
		{q: Push(p, 4), at: '-', has: []int{4}},
	}
}

// TestStandingStill: one stands still at each of its steps, also behind turns that it
// began anew, while others pop and push; then it goes on, alone.
func TestStandingStill(t *testing.T) {
	p := of(5)
	for kind := range standing(p) {
		for stop := range 12 {
			for seed := range 12 {
				o := standing(p)[kind]
				w := chained(t, p, mostTag-3, 3, 1, 0, 2)
				if len(o.has) == 0 {
					w = chained(t, p, mostTag-3, 4, 3, 1, 0, 2)
				}
				d := drawn(100*seed + stop)
				for i := 0; i < stop && o.begin(p); i++ {
					o.step(w)
					if o.steps%3 != 0 {
						w.meddle(&d, &o, 12)
					}
				}
				w.meddle(&d, &o, 200)
				goesOn(w, &o)
			}
		}
	}
}

// meddle lets two others, that give back all that they had, pop and push for so many
// things to do, while o stands still.
func (w *world) meddle(d *drawn, o *one, n int) {
	w.t.Helper()
	crew := append(d.crew(2, n), *o)
	for left := 2; left > 0; {
		left = 0
		i := d.below(2)
		if crew[i].begin(w.p) {
			crew[i].step(w)
			w.whole(crew)
		}
		for k := range 2 {
			if crew[k].begin(w.p) {
				left++
			}
		}
	}
	for i := range 2 {
		crew[i].jobs = strings.Repeat("-", len(crew[i].has))
		for crew[i].begin(w.p) {
			crew[i].step(w)
			w.whole(crew)
		}
	}
}

// goesOn lets one go on, alone: what it was at is over behind the turn that it is in,
// and one more.
func goesOn(w *world, o *one) {
	w.t.Helper()
	steps := 0
	for ; o.begin(w.p); steps++ {
		o.step(w)
		w.whole([]one{*o})
	}
	if steps > 6 {
		w.t.Errorf("%d steps, alone", steps)
	}
}

// R1.

// wildWords are words that a region may have, whatever they are.
func wildWords(p plan.Plan, d *drawn) []uint64 {
	l := append(noNames(p.Nodes), d.word(), d.word(), d.word()&nodeBits)
	for n := range p.Nodes {
		l = append(l, uint64(n+1), uint64(n+1)|d.word()<<21)
	}
	return l
}

// TestWhateverWords: each call and each step ends, none panics, List tells nodes of
// the plan's alone, and no word is changed but the head, and a pushed node's NEXT.
func TestWhateverWords(t *testing.T) {
	d := drawn(9)
	for _, p := range []plan.Plan{of(1), of(2), of(3), of(7)} {
		w := newWorld(t, p)
		wild := wildWords(p, &d)
		for range 3000 {
			for at := range p.Size() {
				w.put(at, wild[d.below(len(wild))])
			}
			listed(w)
			w.endsAlone(Pop(p), p.Head())
			n := d.below(p.Nodes)
			w.endsAlone(Push(p, n), p.Head(), p.Next(n))
			listed(w)
		}
	}
}

// listed asks whether List ends, with nodes of the plan's, no more than it has.
func listed(w *world) {
	w.t.Helper()
	l := List(w.p, w.m, mine)
	if len(l) > w.p.Nodes {
		w.t.Errorf("%+v: List is %v", w.p, l)
	}
	for _, n := range l {
		if n < 0 || n >= w.p.Nodes {
			w.t.Errorf("%+v: List is %v", w.p, l)
		}
	}
}

// endsAlone asks whether a Pop or a Push ends by three steps, over or refused, with a
// node of the plan's or None, and changes no word but those at these places.
func (w *world) endsAlone(q prog.Prog[int], may ...int) {
	w.t.Helper()
	words := w.words()
	n, k, over := prog.Run(q, w.m, w.c, 99)
	if k > 3 || over && (n < api.None || n >= w.p.Nodes) || !over && n != 0 {
		w.t.Errorf("%+v: it comes to %d, over %v, behind %d steps", w.p, n, over, k)
	}
	after := w.words()
	for _, at := range may {
		words[w.place(at)] = after[w.place(at)]
	}
	if !slices.Equal(after, words) {
		w.t.Errorf("%+v: another word is changed", w.p)
	}
}

// TestPopOfANodeThatThePlanHasNot: its NEXT's load is refused, again and again; no
// word is changed.
func TestPopOfANodeThatThePlanHasNot(t *testing.T) {
	for _, p := range several() {
		w := freshWorld(t, p)
		for _, node := range []uint64{uint64(p.Nodes + 1), uint64(p.Nodes + 2), 1 << 20, nodeBits} {
			w.put(0, node|6<<21)
			words, count := w.words(), w.m.Count()
			q := accesses(w, Pop(p), load(0))
			for range 3 {
				next, ok := q.Step(w.m, w.c)
				if _, over := next.Over(); ok || over {
					t.Errorf("%+v: a Pop of the node %d: a step %v, over %v", p, node-1, ok, over)
				}
				q = next
			}
			if w.m.Count() != count+1 || !slices.Equal(w.words(), words) {
				t.Errorf("%+v: a Pop of the node %d does something", p, node-1)
			}
			w.put(p.Head(), 1|6<<21)
		}
	}
}

// TestPushOntoANodeThatThePlanHasNot: the NEXT is what the head's node is, whatever
// that is.
func TestPushOntoANodeThatThePlanHasNot(t *testing.T) {
	w := freshWorld(t, of(3))
	for _, node := range []uint64{4, 5, 1 << 20, nodeBits} {
		w.put(0, node|6<<21)
		q := accesses(w, Push(w.p, 1), load(0), store(15, node), trySwap(0, node|6<<21, 2|7<<21))
		comesTo(w, q, 1)
		w.listIs(1)
	}
}

// TestPopOfANextWithOtherBits: those above a node's don't get into the tag.
func TestPopOfANextWithOtherBits(t *testing.T) {
	for _, above := range []uint64{1 << 21, 1 << 22, 1 << 40, 1 << 63, ones &^ nodeBits} {
		for _, node := range []uint64{0, 2, 3, 9, nodeBits} {
			w := chained(t, of(3), 6, 0)
			w.put(w.p.Next(0), above|node)
			q := accesses(w, Pop(w.p), load(0), load(10), trySwap(0, 1|6<<21, node|7<<21))
			comesTo(w, q, 0)
		}
	}
}

// TestPlansThatAreNotFormed: nothing is done of them.
func TestPlansThatAreNotFormed(t *testing.T) {
	w := freshWorld(t, of(3))
	words, count := w.words(), w.m.Count()
	for _, p := range notFormed() {
		for _, region := range append(noRegions(), 0, mine) {
			if l := List(p, w.m, region); len(l) != 0 {
				t.Errorf("%+v: List of the region %d is %v", p, region, l)
			}
		}
		if _, n, _ := prog.Run(Fresh(p), w.m, w.c, math.MaxInt); n != 0 {
			t.Errorf("%+v: Fresh: %d steps", p, n)
		}
		if r, n, over := prog.Run(Pop(p), w.m, w.c, math.MaxInt); n != 0 || over && r != api.None {
			t.Errorf("%+v: Pop: %d, %d steps, over %v", p, r, n, over)
		}
		for _, node := range append(noNodes(p), 0, 1, 2, p.Nodes-1) {
			comesTo(w, Push(p, node), api.None)
		}
	}
	if w.m.Count() != count || !slices.Equal(w.words(), words) {
		t.Error("an access is done")
	}
}

// TestRegionsThatAreNotThere: List tells nothing of them, and no step is done in them.
func TestRegionsThatAreNotThere(t *testing.T) {
	w := freshWorld(t, of(3))
	none, e := mem.New(nil)
	if e != api.OK {
		t.Fatal(e)
	}
	words, count := w.words(), w.m.Count()
	for _, region := range noRegions() {
		if l := List(w.p, w.m, region); len(l) != 0 {
			t.Errorf("List of the region %d is %v", region, l)
		}
		if l := List(w.p, none, region); len(l) != 0 {
			t.Errorf("List of the region %d of none is %v", region, l)
		}
		w.refused(mem.Cap{Region: region, Epoch: 1})
		w.refused(w.m.Cap(region))
	}
	if l := List(w.p, none, 0); len(l) != 0 {
		t.Error("List of no region:", l)
	}
	if w.m.Count() != count || !slices.Equal(w.words(), words) {
		t.Error("an access is done")
	}
}

// refused asks whether no program does a step by the capability.
func (w *world) refused(c mem.Cap) {
	w.t.Helper()
	_, a, x := prog.Run(Fresh(w.p), w.m, c, 99)
	_, b, y := prog.Run(Pop(w.p), w.m, c, 99)
	_, d, z := prog.Run(Push(w.p, 1), w.m, c, 99)
	if a+b+d != 0 || x || y || z {
		w.t.Errorf("%+v: %d, %d, %d steps, over %v, %v, %v", c, a, b, d, x, y, z)
	}
}

// TestRegionsThatAreTooSmall: what isn't there is refused, and List ends there.
func TestRegionsThatAreTooSmall(t *testing.T) {
	p := of(3)
	for size := range p.Size() {
		m, e := mem.New([]int{size})
		if e != api.OK {
			t.Fatal(e)
		}
		prog.Run(Fresh(p), m, m.Cap(0), 99)
		m.Do(m.Cap(0), mem.Access{Op: mem.Store, At: 0, A: 1})
		if l := List(p, m, 0); len(l) > 3 || !slices.Equal(l, all(p)[:len(l)]) {
			t.Errorf("%d words: List is %v", size, l)
		}
		for n := range 3 {
			prog.Run(Pop(p), m, m.Cap(0), 99)
			prog.Run(Push(p, n), m, m.Cap(0), 99)
		}
	}
}

// TestRefusedBehindABump: a program whose capability isn't good any more stays as it
// is, and goes on by the good one.
func TestRefusedBehindABump(t *testing.T) {
	for stop := range 3 {
		w := freshWorld(t, of(3))
		q, r, f := stepped(w, Pop(w.p), stop), stepped(w, Push(w.p, 2), stop), stepped(w, Fresh(w.p), stop)
		old := w.c
		c, e := w.m.Bump(mine)
		if e != api.OK {
			t.Fatal(e)
		}
		words := w.words()
		w.refused(old)
		for _, x := range []prog.Prog[int]{q, r} {
			if _, n, over := prog.Run(x, w.m, old, 99); n != 0 || over {
				t.Errorf("behind a Bump: %d steps, over %v", n, over)
			}
		}
		if _, n, over := prog.Run(f, w.m, old, 99); n != 0 || over {
			t.Errorf("behind a Bump: %d steps, over %v", n, over)
		}
		if !slices.Equal(w.words(), words) {
			t.Error("a word is changed behind a Bump")
		}
		if n, k, over := prog.Run(q, w.m, c, 99); n != 0 || k != 3-stop || !over {
			t.Error(n, k, over)
		}
	}
}

// R5 and R7.

// TestFreshRunAgain: a Fresh, and what is left of it behind each of its steps, may be
// run again and again.
func TestFreshRunAgain(t *testing.T) {
	p := of(3)
	row := freshAccesses(p)
	for stop := range len(row) {
		w := newWorld(t, p)
		whole := Fresh(p)
		q := accesses(w, whole, row[:stop]...)
		for range 3 {
			comesTo(w, accesses(w, q, row[stop:]...), prog.None{})
			w.listIs(0, 1, 2)
			w.pops(0)
			comesTo(w, accesses(w, whole, row...), prog.None{})
			w.listIs(0, 1, 2)
			w.pops(0)
		}
	}
}

// TestPopRunAgain: one program pops a node each time that it is run.
func TestPopRunAgain(t *testing.T) {
	w := freshWorld(t, of(4))
	q := Pop(w.p)
	for _, want := range []int{0, 1, 2, 3, api.None, api.None} {
		if n, _, over := prog.Run(q, w.m, w.c, 99); n != want || !over {
			t.Errorf("Pop: %d, over %v; want %d", n, over, want)
		}
	}
	w.pushes(2)
	w.popsAnew(q, 2)
}

// TestPopGoesOnTwice: from each of its steps, the second time with a head that is
// another one.
func TestPopGoesOnTwice(t *testing.T) {
	for stop := 1; stop <= 2; stop++ {
		w := freshWorld(t, of(4))
		q := stepped(w, Pop(w.p), stop)
		a, _ := q.Access()
		for i, want := range []int{0, 1, 2, 3, api.None} {
			steps := 6 - stop
			switch {
			case i == 0:
				steps = 3 - stop
			case want == api.None:
				steps = 4 - stop
			}
			if n, k, over := prog.Run(q, w.m, w.c, 99); n != want || k != steps || !over {
				t.Errorf("behind %d steps, the time %d: %d, %d steps, over %v; want %d, %d", stop, i, n, k, over, want, steps)
			}
			if b, ok := q.Access(); a != b || !ok {
				t.Errorf("the access was %+v, and is %+v", a, b)
			}
		}
	}
}

// TestPushGoesOnTwice: from each of its steps; between them the node is popped.
func TestPushGoesOnTwice(t *testing.T) {
	for stop := range 3 {
		w := chained(t, of(4), 0, 0, 1)
		q := stepped(w, Push(w.p, 3), stop)
		for i := range 4 {
			n, k, over := prog.Run(q, w.m, w.c, 99)
			if n != 3 || !over || k > 6-stop || i == 0 && k != 3-stop || i > 0 && stop > 0 && k != 6-stop {
				t.Errorf("behind %d steps, the time %d: %d, %d steps, over %v", stop, i, n, k, over)
			}
			w.listIs(3, 0, 1)
			w.pops(3)
		}
	}
}

// TestProgramsDoNotHangOnOneAnother: but by the memory: what one loaded is its own.
func TestProgramsDoNotHangOnOneAnother(t *testing.T) {
	w := freshWorld(t, of(5))
	var l []prog.Prog[int]
	for range 3 {
		q := stepped(w, Pop(w.p), 2)
		a, _ := q.Access()
		if a != trySwap(0, 1, 2|1<<21) {
			t.Errorf("%+v", a)
		}
		l = append(l, q)
	}
	for i, q := range l {
		if n, _, over := prog.Run(q, w.m, w.c, 99); n != i || !over {
			t.Errorf("the Pop %d: %d, over %v", i, n, over)
		}
	}
	a, b := stepped(w, Push(w.p, 0), 2), stepped(w, Push(w.p, 2), 2)
	comesTo(w, accesses(w, b, trySwap(0, 4|3<<21, 3|4<<21)), 2)
	w.pushesAnew(accesses(w, a, trySwap(0, 4|3<<21, 1|4<<21)), 0)
	w.listIs(0, 2, 3, 4)
}

// TestRegionsDoNotHangOnOneAnother: one program, in two regions, and two plans.
func TestRegionsDoNotHangOnOneAnother(t *testing.T) {
	p, other := of(3), plan.Plan{Nodes: 6, Threads: 2, Retire: 8, Domains: 2, Buckets: 3, Gen: 5}
	m, e := mem.New([]int{p.Size(), p.Size(), other.Size()})
	if e != api.OK {
		t.Fatal(e)
	}
	prog.Run(Fresh(p), m, m.Cap(0), 99)
	prog.Run(Fresh(p), m, m.Cap(1), 99)
	prog.Run(Fresh(other), m, m.Cap(2), 99)
	q := Pop(p)
	for _, want := range []int{0, 1} {
		if n, _, over := prog.Run(q, m, m.Cap(0), 99); n != want || !over {
			t.Error(n, over)
		}
	}
	prog.Run(Pop(other), m, m.Cap(2), 99)
	for region, want := range [][]int{{2}, {0, 1, 2}} {
		if l := List(p, m, region); !slices.Equal(l, want) {
			t.Errorf("the region %d: %v; want %v", region, l, want)
		}
	}
	if l := List(other, m, 2); !slices.Equal(l, []int{1, 2, 3, 4, 5}) {
		t.Error(l)
	}
}
