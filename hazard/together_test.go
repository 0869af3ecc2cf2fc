package hazard

import (
	"math"
	"slices"
	"testing"

	"cubicle/api"
	"cubicle/mem"
	"cubicle/plan"
	"cubicle/prog"
)

// P10.3.

// by is the shift by which the words of the place that is guarded name nodes.
const by = 4

// job is a thing for a thread to do.
type job struct {
	kind byte   // g a Guard, c a Clear, s a Set of None, w a store of a word at the place, h a Held
	slot int    // of a Guard, or a Set
	word uint64 // that is stored; or that named the node of the Held
}

// one is a thread that guards the place, or changes it. It is a value: a copy of it
// goes on from where it was.
type one struct {
	thread int
	jobs   []job // what is left to do
	q      prog.Prog[uint64]
	busy   bool
	begun  bool      // whether q has done a step
	looks  [3]uint64 // what its Guards are over with, by slot, till it is told to be done with
	others int       // how often a Guard went on with another word
}

// crew is threads, and the words whose nodes were told not to be held, when the place
// had them no more.
type crew struct {
	ones []one
	gone []uint64
}

func (c crew) clone() crew {
	return crew{slices.Clone(c.ones), slices.Clone(c.gone)}
}

// number is a program that comes to a number of what the other one comes to.
func number[R any](q prog.Prog[R], of func(R) uint64) prog.Prog[uint64] {
	return prog.Then(q, func(r R) prog.Prog[uint64] { return prog.Done(of(r)) })
}

func nothing(prog.None) uint64 { return 0 }

func truth(b bool) uint64 {
	if b {
		return 1
	}
	return 0
}

// program is what does the job.
func (o *one) program(p plan.Plan, at int) prog.Prog[uint64] {
	switch x := o.jobs[0]; x.kind {
	case 'g':
		return Guard(p, o.thread, x.slot, at, by)
	case 'c':
		return number(Clear(p, o.thread), nothing)
	case 's':
		return number(Set(p, o.thread, x.slot, api.None), nothing)
	case 'w':
		return number(prog.Set(at, x.word), nothing)
	default:
		return number(Held(p, int(x.word>>by)-1), truth)
	}
}

// begin begins the next thing to do, if it is at none; it is whether it is at one then.
func (o *one) begin(p plan.Plan, at int) bool {
	if o.busy || len(o.jobs) == 0 {
		return o.busy
	}
	o.q, o.busy, o.begun = o.program(p, at), true, false
	switch x := o.jobs[0]; x.kind {
	case 'c':
		o.looks = [3]uint64{}
	case 'g', 's':
		o.looks[x.slot] = 0 // a Guard by that hazard may name another node
	}
	return true
}

// step does one step of the thread.
func (c *crew) step(w *world, at, i int) {
	o, was := &c.ones[i], w.m.Peek(mine, at)
	q, ok := o.q.Step(w.m, w.c)
	if !ok {
		w.t.Fatalf("%+v: a step of %c is refused", w.p, o.jobs[0].kind)
	}
	a, _ := o.q.Access()
	b, _ := q.Access()
	if o.jobs[0].kind == 'g' && o.begun && a.Op == mem.Load && b.Op == mem.Store {
		o.others++
	}
	o.q, o.begun = q, true
	r, over := q.Over()
	if !over {
		return
	}
	x := o.jobs[0]
	o.jobs, o.busy = o.jobs[1:], false
	switch x.kind {
	case 'g':
		c.guarded(w, at, i, x.slot, r)
	case 'w':
		o.jobs = slices.Concat([]job{{kind: 'h', word: was}}, o.jobs)
	case 'h':
		if r == 0 && w.m.Peek(mine, at)>>by != x.word>>by {
			c.gone = append(c.gone, x.word>>by)
		}
	}
}

// guarded asks whether, where a Guard is over with that word, the place has it, and
// the hazard names its node.
func (c *crew) guarded(w *world, at, i, slot int, word uint64) {
	if got := w.m.Peek(mine, at); got != word {
		w.t.Fatalf("a Guard is over with %#x; the place has %#x", word, got)
	}
	if word>>by != 0 {
		c.ones[i].looks[slot] = word
	}
}

// whole asks whether the hazard of each word that is looked at names its node still,
// and none of these is one whose node nobody held.
func (c *crew) whole(w *world) {
	for _, o := range c.ones {
		for slot, word := range o.looks {
			if word == 0 {
				continue
			}
			if got := w.m.Peek(mine, w.p.Hazard(o.thread, slot)); got != word>>by {
				w.t.Fatalf("the thread %d looks at %#x; its hazard %d is %d", o.thread, word, slot, got)
			}
			if slices.Contains(c.gone, word>>by) {
				w.t.Fatalf("the thread %d looks at %#x, whose node was held by none", o.thread, word)
			}
		}
	}
}

// orders does the crew's steps in all orders, and is how many these are, how often a
// Guard went on with another word, and how many nodes were told not to be held.
func (w *world) orders(c crew, at int) (int, int, int) {
	c.whole(w)
	ends, others, gone := 0, 0, 0
	for i := range c.ones {
		next := c.clone()
		o := &next.ones[i]
		if !o.begin(w.p, at) {
			continue
		}
		a, _ := o.q.Access()
		was := w.m.Peek(mine, a.At)
		next.step(w, at, i)
		n, k, g := w.orders(next, at)
		ends, others, gone = ends+n, others+k, gone+g
		w.put(a.At, was) // a step changes that word alone
	}
	if ends > 0 {
		return ends, others, gone
	}
	for _, o := range c.ones {
		others += o.others
	}
	return 1, others, len(c.gone)
}

// quiet is a world whose hazards name no node, and whose place has that word.
func quiet(t *testing.T, p plan.Plan, at int, word uint64) *world {
	w := newWorld(t, p)
	w.putHazards(0)
	w.put(at, word)
	return w
}

func guard(slot int) job            { return job{kind: 'g', slot: slot} }
func unguard(slot int) job          { return job{kind: 's', slot: slot} }
func change(word uint64) job        { return job{kind: 'w', word: word} }
func clearAll() job                 { return job{kind: 'c'} }
func word(n int, low uint64) uint64 { return uint64(n+1)<<by | low }

// TestAllOrders: of a few steps of two and three threads. Each node is in the place
// once, so that one that isn't in it any more, and isn't held, is never looked at.
func TestAllOrders(t *testing.T) {
	for i, x := range []struct {
		threads int // of the plan
		jobs    [][]job
	}{
		{1, [][]job{{guard(0)}, {change(word(3, 1))}}},
		{1, [][]job{{guard(2)}, {change(word(3, 1)), change(word(5, 0))}}},
		{1, [][]job{{guard(1), clearAll()}, {change(word(3, 0)), change(0)}}},
		{1, [][]job{{guard(1), clearAll(), guard(0)}, {change(word(3, 0))}}},
		{1, [][]job{{guard(0), unguard(0), guard(0)}, {change(7), change(word(4, 9))}}},
		{1, [][]job{{guard(0), guard(1), guard(2)}, {change(word(4, 9))}}},
		{2, [][]job{{guard(0)}, {change(word(3, 0)), change(word(1, 8))}}},
		{2, [][]job{{guard(0), clearAll()}, {change(word(8, 15))}}},
		{2, [][]job{{guard(0)}, {guard(2), unguard(2), change(word(2, 0))}}},
		{2, [][]job{{guard(1), change(word(6, 3))}, {guard(1), change(word(2, 0))}}},
		{2, [][]job{{guard(0)}, {guard(0)}, {change(word(3, 1))}}},
	} {
		var c crew
		for thread, jobs := range x.jobs {
			c.ones = append(c.ones, one{thread: thread, jobs: jobs})
		}
		at := of(x.threads).Field(2, 1)
		ends, others, gone := quiet(t, of(x.threads), at, word(0, 2)).orders(c, at)
		if ends < 10 || others == 0 || gone == 0 {
			t.Errorf("the row %d: %d orders, %d other words, %d nodes held by none", i, ends, others, gone)
		}
	}
}

// TestAllOrdersOfWordsThatComeAgain: the place has a word, another one that names the
// same node, or none, and the first one again, while one and two threads guard it.
func TestAllOrdersOfWordsThatComeAgain(t *testing.T) {
	first := word(0, 2)
	for _, words := range [][]uint64{
		{first, word(3, 2), first},
		{first, word(0, 3), first},
		{first, word(0, 3), word(3, 3)},
		{first, 9, first},
		{first, first, word(3, 2)},
		{0, first, 0},
		{9, first, 8},
		{9, first, word(0, 1)},
		{1<<by - 1, 1 << by, 1<<by - 1},
		{math.MaxUint64, 0, math.MaxUint64},
	} {
		for guards := range 2 {
			var c crew
			for thread := range guards + 1 {
				c.ones = append(c.ones, one{thread: thread, jobs: []job{guard(1)}})
			}
			w, at := quiet(t, of(2), 0, words[0]), 0
			c.ones = append(c.ones, changer(at, words[1:]...))
			if ends, _, _ := w.orders(c, at); ends < 3 {
				t.Errorf("%#x: %d orders", words, ends)
			}
		}
	}
}

// changer is one that stores the words at the place, and asks for no Held, since a
// node that comes again isn't gone.
func changer(at int, words ...uint64) one {
	return one{q: stores(at, words...), busy: true, jobs: []job{{kind: '-'}}}
}

// guards are so many Guards, by each slot in turn.
func guards(many int) []job {
	var l []job
	for i := range many {
		l = append(l, guard(i%3))
	}
	return l
}

// stores is a program of stores of the words at the place.
func stores(at int, words ...uint64) prog.Prog[uint64] {
	if len(words) == 0 {
		return prog.Done(uint64(0))
	}
	return prog.Then(prog.Set(at, words[0]), func(prog.None) prog.Prog[uint64] {
		return stores(at, words[1:]...)
	})
}

// jobs is a fixed row of things to do; what is stored is told by next, or names none.
func (d *drawn) jobs(many int, next func() uint64) []job {
	var l []job
	for range many {
		switch d.below(6) {
		case 0, 1, 2:
			l = append(l, guard(d.below(3)))
		case 3:
			l = append(l, change(next()))
		case 4:
			l = append(l, change(uint64(d.below(1<<by))))
		case 5:
			l = append(l, []job{clearAll(), unguard(d.below(3))}[d.below(2)])
		}
	}
	return l
}

// play picks threads, each for up to most steps at a time, till none has anything to
// do, and asks at each step whether all is whole.
func (d *drawn) play(w *world, c *crew, at, most int) {
	for left := true; left; {
		i := d.below(len(c.ones))
		for range 1 + d.below(most) {
			if c.ones[i].begin(w.p, at) {
				c.step(w, at, i)
				c.whole(w)
			}
		}
		left = slices.ContainsFunc(c.ones, func(o one) bool { return o.busy || len(o.jobs) > 0 })
	}
}

// TestManyOrders: drawn by a fixed rule, of several threads; each node is in the
// place once.
func TestManyOrders(t *testing.T) {
	others, gone := 0, 0
	for _, threads := range []int{2, 3, 5, 16} {
		for _, most := range []int{1, 2, 4, 9} {
			p := plan.Plan{Nodes: 2000, Threads: threads, Retire: 49, Buckets: 1, Gen: 9}
			d, at, node := drawn(threads<<8+most), p.Field(7, 2), 0
			w := quiet(t, p, at, word(node, 3))
			next := func() uint64 {
				node++
				return word(node, uint64(d.below(1<<by)))
			}
			var c crew
			for thread := range threads {
				c.ones = append(c.ones, one{thread: thread, jobs: d.jobs(100, next)})
			}
			d.play(w, &c, at, most)
			for _, o := range c.ones {
				others += o.others
			}
			gone += len(c.gone)
		}
	}
	if others < 400 || gone < 1000 {
		t.Errorf("%d other words, %d nodes held by none: the orders are too tame", others, gone)
	}
}

// TestAGuardStandsStill: at each of its steps, while others change the place and
// guard it too; then it goes on alone, and is over behind four steps.
func TestAGuardStandsStill(t *testing.T) {
	p := of(3)
	at := p.Field(2, 1)
	for stop := range 9 {
		for seed := range 40 {
			d := drawn(100*seed + stop)
			next := func() uint64 { return word(d.below(3), uint64(d.below(2))) }
			w := quiet(t, p, at, next())
			q := Guard(p, 2, 1, at, by)
			for range stop {
				q, _ = q.Step(w.m, w.c)
				w.put(at, next())
			}
			c := crew{ones: []one{changer(at, next(), next(), next(), next()), {thread: 0, jobs: guards(20)}, {thread: 1, jobs: guards(20)}}}
			d.play(w, &c, at, 3)
			w.put(at, next())
			goesOn(w, q, at)
		}
	}
}

// goesOn lets the thread 2's Guard by its hazard 1 go on, alone: it is over behind
// what is left of its turn, and one more.
func goesOn(w *world, q prog.Prog[uint64], at int) {
	w.t.Helper()
	word, steps, over := prog.Run(q, w.m, w.c, 99)
	if !over || steps > 4 {
		w.t.Errorf("over %v, behind %d steps, alone", over, steps)
	}
	if steps > 0 && w.m.Peek(mine, at) != word {
		w.t.Errorf("it is over with %#x; the place has %#x", word, w.m.Peek(mine, at))
	}
	if got := w.m.Peek(mine, w.p.Hazard(2, 1)); word>>by != 0 && got != word>>by {
		w.t.Errorf("it is over with %#x; the hazard is %d", word, got)
	}
}
