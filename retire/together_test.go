package retire

import (
	"slices"
	"testing"

	"cubicle/api"
	"cubicle/free"
	"cubicle/hazard"
	"cubicle/mem"
	"cubicle/plan"
	"cubicle/prog"
	"cubicle/state"
)

// P11.4, and what follows in company: threads share one place, that names a node or
// none; who takes a node out of it retires that.

// job is a thing for a thread to do.
type job struct {
	kind byte
	slot int // of a hazard
	n    int // a node
}

// The kinds of jobs: what a thread has it popped, or reclaims; what is out was taken
// out of the place.
const (
	pop      = '+' // pops a node, to have it
	stamp    = 's' // stores one of its fields, that isn't 0 any more
	push     = '-' // pushes the first one that it has, with fields of 0
	reclaim  = 'k' // reclaims the first one that it has
	exchange = 'e' // lets the place name the first one that it has, and takes out what was there
	takeOut  = 't' // lets the place name none, and takes out what was there
	retire   = 'r' // puts the first one that is out
	scan     = 'x'
	look     = 'g' // guards the place, and looks at the node from then on
	end      = 'u' // lets a hazard name none
	name     = 'h' // lets a hazard name a node, whatever is done with that
	unhold   = 'c' // lets all its hazards name none
)

// todo is the jobs of a text: a slot stands behind a look or an end, a slot and a node
// behind a name.
func todo(text string) []job {
	var l []job
	for i := 0; i < len(text); i++ {
		j := job{kind: text[i]}
		if j.kind == look || j.kind == end || j.kind == name {
			i++
			j.slot = int(text[i] - '0')
		}
		if j.kind == name {
			i++
			j.n = int(text[i] - '0')
		}
		l = append(l, j)
	}
	return l
}

// trail is what a program did, the last access first. None is ever changed.
type trail struct {
	last  did
	ahead *trail
}

func (l *trail) all() []did {
	var all []did
	for ; l != nil; l = l.ahead {
		all = append(all, l.last)
	}
	slices.Reverse(all)
	return all
}

// one is a thread. It is a value, whose lists are never changed: a copy of it goes on
// from where it was.
type one struct {
	thread int
	jobs   []job // what is left to do
	now    job   // what q does
	q      prog.Prog[int]
	busy   bool
	trail  *trail // what q did
	has    []int
	out    []int
	kept   []int // those that it retired
	moved  bool  // whether one of these is named twice, ahead of the count's store
	flight int   // one that a Scan took out, and that isn't pushed yet; or None
	looks  [3]uint64
}

// tale is what happened.
type tale struct{ reclaimed, left, noRoom, anew, gone, looks int }

// crew is threads, and the nodes that are gone.
type crew struct {
	ones []one
	gone []int
	tale tale
}

// newCrew is so many threads that have nothing to do.
func newCrew(threads int) crew {
	var c crew
	for i := range threads {
		c.ones = append(c.ones, one{thread: i, flight: api.None})
	}
	return c
}

func (c crew) clone() crew {
	return crew{slices.Clone(c.ones), slices.Clone(c.gone), c.tale}
}

// with is the list, and behind that the nodes, in a list of its own.
func with(l []int, nodes ...int) []int { return slices.Concat(l, nodes) }

// shared is the plan of those that work together; at is the place that they share.
func shared(nodes, threads, gen int) plan.Plan {
	return plan.Plan{Nodes: nodes, Threads: threads, Retire: 3*threads + 1, Domains: 1, Buckets: 1, Gen: gen}
}

func (w *world) at() int { return w.p.Cell(0, 1) }

// stampAt is the place of the node's field that is stamped.
func (w *world) stampAt(n int) int { return w.p.Field(n, n%3) }

const stamped = 77

// freshWorld is a world whose nodes are all in the free list, with fields of 0, and
// whose place names none.
func freshWorld(t *testing.T, p plan.Plan) *world {
	t.Helper()
	w := newWorld(t, p)
	w.put(w.at(), 0)
	for at := p.State(0); at < p.Size(); at++ {
		w.put(at, 0)
	}
	if _, _, over := prog.Run(free.Fresh(p), w.m, w.c, 1<<20); !over {
		t.Fatalf("%+v: Fresh isn't over", p)
	}
	return w
}

// then is the program, and then the other one.
func then[R any](q prog.Prog[R], next prog.Prog[int]) prog.Prog[int] {
	return prog.Then(q, func(R) prog.Prog[int] { return next })
}

// nothing is the program that is over at once, with 0.
func nothing() prog.Prog[int] { return prog.Done(0) }

// swapped is a program that lets the place have that word; it comes to the node that
// it named.
func swapped(at int, word uint64) prog.Prog[int] {
	return prog.Then(prog.Get(at), func(was uint64) prog.Prog[int] {
		return prog.Then(prog.Try(at, was, word), func(done bool) prog.Prog[int] {
			if !done {
				return swapped(at, word)
			}
			return prog.Done(int(was) - 1)
		})
	})
}

// program is what does the job.
func (o *one) program(w *world, j job) prog.Prog[int] {
	switch j.kind {
	case pop:
		return free.Pop(w.p)
	case stamp:
		return then(prog.Set(w.stampAt(j.n), stamped), nothing())
	case push:
		return then(prog.Set(w.stampAt(o.has[0]), 0), free.Push(w.p, o.has[0]))
	case reclaim:
		return Reclaim(w.p, o.has[0])
	case exchange:
		return swapped(w.at(), uint64(o.has[0]+1))
	case takeOut:
		return swapped(w.at(), 0)
	case retire:
		return Put(w.p, o.thread, o.out[0])
	case scan:
		return Scan(w.p, o.thread)
	case look:
		return prog.Then(hazard.Guard(w.p, o.thread, j.slot, w.at(), 0), func(word uint64) prog.Prog[int] {
			return prog.Done(int(word))
		})
	case end:
		return then(hazard.Set(w.p, o.thread, j.slot, api.None), nothing())
	case name:
		return then(hazard.Set(w.p, o.thread, j.slot, j.n), nothing())
	default:
		return then(hazard.Clear(w.p, o.thread), nothing())
	}
}

// may tells whether the thread has what the job needs.
func (o *one) may(j job) bool {
	switch j.kind {
	case push, reclaim, exchange:
		return len(o.has) > 0
	case retire:
		return len(o.out) > 0
	}
	return true
}

// begin begins the next job that may be done, if the thread is at none; it is whether
// it is at one then.
func (o *one) begin(w *world) bool {
	for !o.busy && len(o.jobs) > 0 {
		j := o.jobs[0]
		o.jobs = o.jobs[1:]
		if !o.may(j) {
			continue
		}
		o.q, o.now, o.busy, o.trail = o.program(w, j), j, true, nil
		switch j.kind {
		case look, end, name:
			o.looks[j.slot] = 0
		case unhold:
			o.looks = [3]uint64{}
		}
	}
	return o.busy
}

// step does one step of the thread.
func (c *crew) step(w *world, i int) {
	o := &c.ones[i]
	a, _ := o.q.Access()
	c.touches(w, i, a)
	told := w.m.Peek(mine, a.At)
	q, ok := o.q.Step(w.m, w.c)
	if !ok {
		w.t.Fatalf("%+v: a step of %c is refused", w.p, o.now.kind)
	}
	o.q, o.trail = q, &trail{did{a, told}, o.trail}
	if o.now.kind == scan {
		c.scanned(w, o, did{a, told})
	}
	if a.Op == mem.Swap && a.At == w.p.Head() && told != a.A {
		c.tale.anew++
	}
	if r, over := q.Over(); over {
		o.busy = false
		c.ended(w, o, r)
	}
}

// touches asks whether the access isn't one of another thread's count or retired words.
func (c *crew) touches(w *world, i int, a mem.Access) {
	for k := range c.ones {
		if first := w.p.Count(k); k != i && a.At >= first && a.At <= first+w.p.Retire {
			w.t.Fatalf("%+v: the thread %d does %+v: that is the thread %d's", w.p, i, a, k)
		}
	}
}

// scanned keeps account of a Scan's step: where the retired nodes are.
func (c *crew) scanned(w *world, o *one, d did) {
	count := w.p.Count(o.thread)
	switch {
	case d.a.Op == mem.Store && d.a.At == count:
		left := List(w.p, w.m, mine, o.thread)
		for _, n := range o.kept {
			if !slices.Contains(left, n) {
				o.flight = n
			}
		}
		o.kept, o.moved = left, false
	case d.a.Op == mem.Store && d.a.At > count && d.a.At <= count+w.p.Retire:
		o.moved = true
	case d.a.Op == mem.Swap && d.told == d.a.A:
		o.flight = api.None
	case d.a.Op == mem.Store && o.flight != api.None && d.a.At == w.p.State(o.flight):
		if s, _ := state.Of(d.a.A); s.Mode == state.Gone {
			c.gone, o.flight = with(c.gone, o.flight), api.None
			c.tale.gone++
		}
	}
}

// ended asks whether what the job came to is right, and keeps account of it.
func (c *crew) ended(w *world, o *one, r int) {
	switch j := o.now; j.kind {
	case pop:
		if r != api.None {
			o.popped(w, r)
		}
	case push:
		w.is(r, o.has[0])
		o.has = o.has[1:]
	case reclaim:
		w.is(r, w.follows(o.trail.all(), reclaims(o.has[0])))
		if r == api.None {
			c.gone = with(c.gone, o.has[0])
			c.tale.gone++
		}
		o.has = o.has[1:]
	case exchange, takeOut:
		if j.kind == exchange {
			o.has = o.has[1:]
		}
		if r != api.None {
			o.out = with(o.out, r)
		}
	case retire:
		c.putBehind(w, o, r)
	case scan:
		w.is(r, w.follows(o.trail.all(), scans(o.thread)))
		c.tale.reclaimed += r
		c.tale.left += len(o.kept)
	case look:
		c.looked(w, o, j.slot, uint64(r))
	}
}

// popped asks whether the node that was popped has fields of 0.
func (o *one) popped(w *world, n int) {
	for f := range 3 {
		if word := w.m.Peek(mine, w.p.Field(n, f)); word != 0 {
			w.t.Fatalf("%+v: the node %d is popped with %d in its field %d", w.p, n, word, f)
		}
	}
	o.has = with(o.has, n)
	o.jobs = slices.Concat([]job{{kind: stamp, n: n}}, o.jobs)
}

// putBehind asks whether the Put did what it must; where there was no room, a Scan is
// to come, and the Put again.
func (c *crew) putBehind(w *world, o *one, r int) {
	w.is(r, w.follows(o.trail.all(), puts(o.thread, o.out[0])))
	if r == api.None {
		c.tale.noRoom++
		o.jobs = slices.Concat(todo("xr"), o.jobs)
		return
	}
	o.kept, o.out = with(o.kept, o.out[0]), o.out[1:]
}

// looked asks whether, where a Guard is over, the hazard names the place's node.
func (c *crew) looked(w *world, o *one, slot int, word uint64) {
	if word == 0 {
		return
	}
	if a, b := w.m.Peek(mine, w.at()), w.m.Peek(mine, w.p.Hazard(o.thread, slot)); a != word || b != word {
		w.t.Fatalf("%+v: a Guard comes to %d; the place has %d, the hazard %d", w.p, word, a, b)
	}
	o.looks[slot] = word
	c.tale.looks++
}

// whole asks whether each node is at one place, once: in the free list, had by a
// thread, out, retired, on the way from there to the free list, named by the place, or
// gone; and whether the retired nodes are as their thread left them.
func (c *crew) whole(w *world) {
	w.t.Helper()
	seen := make([]int, w.p.Nodes)
	note := func(l ...int) {
		for _, n := range l {
			seen[n]++
		}
	}
	list := free.List(w.p, w.m, mine)
	note(list...)
	note(c.gone...)
	if word := w.m.Peek(mine, w.at()); word != 0 {
		note(int(word - 1))
	}
	for _, o := range c.ones {
		note(o.has...)
		note(o.out...)
		note(o.kept...)
		if o.flight != api.None {
			note(o.flight)
		}
		if l := List(w.p, w.m, mine, o.thread); !o.moved && !slices.Equal(l, o.kept) {
			w.t.Fatalf("%+v: the thread %d retired %v; List is %v", w.p, o.thread, o.kept, l)
		}
	}
	if slices.ContainsFunc(seen, func(k int) bool { return k != 1 }) {
		w.t.Fatalf("%+v: the nodes are so often anywhere: %v; the free list is %v", w.p, seen, list)
	}
	c.lookedAt(w, list)
}

// lookedAt asks whether each node that somebody looks at is as it was.
func (c *crew) lookedAt(w *world, list []int) {
	w.t.Helper()
	for _, o := range c.ones {
		for slot, word := range o.looks {
			if word == 0 {
				continue
			}
			n := int(word - 1)
			if got := w.m.Peek(mine, w.p.Hazard(o.thread, slot)); got != word {
				w.t.Fatalf("%+v: the thread %d looks at the node %d; its hazard is %d", w.p, o.thread, n, got)
			}
			if w.m.Peek(mine, w.stampAt(n)) != stamped || slices.Contains(list, n) || slices.Contains(c.gone, n) {
				w.t.Fatalf("%+v: the thread %d looks at the node %d, that is reclaimed", w.p, o.thread, n)
			}
		}
	}
}

// alone lets one thread do these jobs, to their end.
func (c *crew) alone(w *world, i int, text string) {
	w.t.Helper()
	o := &c.ones[i]
	o.jobs = slices.Concat(o.jobs, todo(text))
	for o.begin(w) {
		c.step(w, i)
		c.whole(w)
	}
}

// settle lets each thread end what it is at, clear its hazards, and put and scan all
// that is out: no node is retired then.
func (c *crew) settle(w *world) {
	w.t.Helper()
	for i := range c.ones {
		c.alone(w, i, "c")
	}
	for i := range c.ones {
		for o := &c.ones[i]; len(o.out) > 0; {
			c.alone(w, i, "r")
		}
		c.alone(w, i, "x")
		w.listIs(i)
	}
}

// orders does the crew's steps in all orders, and is how many these are, and what
// happened in them, all together.
func (c crew) orders(w *world) (int, tale) {
	c.whole(w)
	ends, sum := 0, tale{}
	for i := range c.ones {
		next := c.clone()
		o := &next.ones[i]
		if !o.begin(w) {
			continue
		}
		a, _ := o.q.Access()
		was := w.m.Peek(mine, a.At)
		next.step(w, i)
		n, more := next.orders(w)
		ends, sum = ends+n, sum.plus(more)
		w.put(a.At, was) // a step changes that word alone
	}
	if ends > 0 {
		return ends, sum
	}
	return 1, c.tale
}

func (x tale) plus(y tale) tale {
	return tale{x.reclaimed + y.reclaimed, x.left + y.left, x.noRoom + y.noRoom, x.anew + y.anew, x.gone + y.gone, x.looks + y.looks}
}

// turn is what a thread does ahead of the orders, alone.
type turn struct {
	thread int
	text   string
}

// TestAllOrders: of a few steps of two and three threads; what must happen in some of
// them is asked.
func TestAllOrders(t *testing.T) {
	for i, x := range []struct {
		gen   int
		ahead []turn
		jobs  []string
		must  tale
	}{
		{9, []turn{{0, "+e+e"}, {1, "+e"}}, []string{"r", "r"}, tale{}},
		{9, []turn{{0, "+e+er"}, {1, "+e"}}, []string{"x", "r"}, tale{reclaimed: 1}},
		{9, []turn{{0, "+e"}, {1, "g0"}, {0, "tr"}}, []string{"x", "c"}, tale{reclaimed: 1, left: 1}},
		{9, []turn{{0, "+e"}}, []string{"trx", "g0"}, tale{reclaimed: 1, left: 1, looks: 1}},
		{9, []turn{{0, "+e"}}, []string{"trx", "g2u2"}, tale{reclaimed: 1, left: 1, looks: 1}},
		{9, []turn{{0, "+etr"}}, []string{"x", "+"}, tale{reclaimed: 1, anew: 1}},
		{9, []turn{{0, "+etr"}, {1, "+"}}, []string{"x", "-"}, tale{reclaimed: 1, anew: 1}},
		{9, []turn{{0, "+"}}, []string{"k", "+-"}, tale{anew: 1}},
		{9, []turn{{0, "+"}, {1, "+"}}, []string{"k", "k"}, tale{anew: 1}},
		{9, []turn{{0, "+e+etrr"}, {1, "h10"}}, []string{"x", "h21"}, tale{reclaimed: 1, left: 1}},
		{9, []turn{{0, "+e+etrr"}, {1, "h20"}}, []string{"x", "u2"}, tale{reclaimed: 1, left: 1}},
		{9, []turn{{0, "+e+etrr"}, {1, "h20"}}, []string{"x", "u2h01"}, tale{reclaimed: 1, left: 1}},
		{9, []turn{{0, "+e+etrr"}, {1, "g0"}}, []string{"x", "x"}, tale{reclaimed: 1}},
		{1, []turn{{0, "+etrx+etr"}}, []string{"x", "+"}, tale{gone: 1}},
		{1, []turn{{0, "+k+"}, {1, "+"}}, []string{"k", "k"}, tale{gone: 1, anew: 0}},
		{9, []turn{{0, "+e+e"}, {1, "+e"}, {2, "+e"}}, []string{"r", "r", "r"}, tale{}},
		{9, []turn{{0, "+"}, {1, "+e+e"}}, []string{"k", "r", "h02"}, tale{}},
		{9, []turn{{0, "+etr"}}, []string{"x", "h10", "h00"}, tale{reclaimed: 1, left: 1}},
	} {
		p := shared(4, max(2, len(x.jobs)), x.gen)
		w, c := freshWorld(t, p), newCrew(len(x.jobs))
		for _, a := range x.ahead {
			c.alone(w, a.thread, a.text)
		}
		c.tale = tale{}
		for k, text := range x.jobs {
			c.ones[k].jobs = todo(text)
		}
		ends, got := c.orders(w)
		if ends < 10 {
			t.Errorf("the row %d: %d orders", i, ends)
		}
		if !got.has(x.must) {
			t.Errorf("the row %d: there happened %+v; too tame", i, got)
		}
	}
}

// has tells whether all that must happen did.
func (x tale) has(must tale) bool {
	return x.reclaimed >= must.reclaimed && x.left >= must.left && x.noRoom >= must.noRoom &&
		x.anew >= must.anew && x.gone >= must.gone && x.looks >= must.looks
}

// jobs is a fixed row of so many things to do.
func (d *drawn) jobs(p plan.Plan, many int) []job {
	var l []job
	for range many {
		kinds := "++++eeeeerrrrrxgggcuhhk-t"
		l = append(l, job{kind: kinds[d.below(len(kinds))], slot: d.below(3), n: d.below(p.Nodes)})
	}
	return l
}

// play picks among the first so many threads, each for up to most steps at a time,
// till none of these has anything to do, and asks at each step whether all is whole.
func (d *drawn) play(w *world, c *crew, threads, most int) {
	w.t.Helper()
	for left := true; left; {
		i := d.below(threads)
		for range 1 + d.below(most) {
			if c.ones[i].begin(w) {
				c.step(w, i)
				c.whole(w)
			}
		}
		left = slices.ContainsFunc(c.ones[:threads], func(o one) bool { return o.busy || len(o.jobs) > 0 })
	}
}

// TestManyOrders: drawn by a fixed rule, of several threads.
func TestManyOrders(t *testing.T) {
	var sum tale
	for _, threads := range []int{2, 3, 5, 16} {
		for _, most := range []int{1, 3, 9, 60} {
			for _, gen := range []int{3, api.MaxGen} {
				p := shared(9*threads, threads, gen)
				d, w, c := drawn(threads<<16+most<<8+gen), freshWorld(t, p), newCrew(threads)
				for i := range threads {
					c.ones[i].jobs = d.jobs(p, 900/threads+60)
				}
				d.play(w, &c, threads, most)
				c.settle(w)
				sum = sum.plus(c.tale)
			}
		}
	}
	if !sum.has(tale{1000, 500, 10, 1000, 100, 1000}) {
		t.Errorf("there happened %+v; too tame", sum)
	}
}

// standing is a world of three threads: the last one has a node, one that is out, and
// three that are retired, of which the first thread looks at one, and a hazard names
// another one.
func standing(t *testing.T, gen int) (*world, crew) {
	w, c := freshWorld(t, shared(9, 3, gen)), newCrew(3)
	c.alone(w, 2, "+e+e+e")
	c.alone(w, 0, "g1")
	c.alone(w, 2, "+e+trrr+")
	c.alone(w, 0, "h00")
	return w, c
}

// TestStandingStill: a Put, a Reclaim and a Scan stand still at each of their steps,
// while others pop and push, set and clear hazards, put and scan; then they go on,
// alone.
func TestStandingStill(t *testing.T) {
	for _, text := range []string{"r", "k", "x"} {
		for _, gen := range []int{1, 2, api.MaxGen} {
			stops := 0
			for stop, left := 0, true; left; stop++ {
				for seed := range 8 {
					w, c := standing(t, gen)
					left = c.stands(w, text, stop, drawn(1000*seed+stop))
				}
				stops++
			}
			if least := map[string]int{"r": 3, "k": 5, "x": 29}[text]; stops < least {
				t.Errorf("%s: %d stops", text, stops)
			}
		}
	}
}

// stands lets the last thread stand still behind so many steps of the job; it is
// whether there was such a step.
func (c *crew) stands(w *world, text string, stop int, d drawn) bool {
	w.t.Helper()
	o := &c.ones[2]
	o.jobs = todo(text)
	for range stop {
		if !o.begin(w) {
			return false
		}
		c.step(w, 2)
		c.whole(w)
	}
	for i := range 2 {
		c.ones[i].jobs = d.jobs(w.p, 60)
	}
	d.play(w, c, 2, 4)
	left := 0
	for ; o.begin(w); left++ {
		c.step(w, 2)
		c.whole(w)
	}
	// Of each node a Reclaim, whose push begins anew once at most, and the questions.
	if left > 1+len(o.kept)*30+3*30 {
		w.t.Errorf("%+v: %s: %d steps, alone", w.p, text, left)
	}
	c.settle(w)
	return true
}
