package alloc

import (
	"slices"
	"strings"
	"testing"

	"cubicle/api"
	"cubicle/free"
	"cubicle/hazard"
	"cubicle/mem"
	"cubicle/plan"
	"cubicle/prog"
	"cubicle/retire"
	"cubicle/state"
)

// P12.4, in company: threads share one place, that names a node or none; who takes a
// node out of it retires that.

// job is a thing for a thread to do.
type job struct {
	kind byte
	i    int // of a node to be granted, its kind; of a hazard, its slot
	n    int // a node
}

// The kinds of jobs: what a thread has it was granted; what is out was taken out of
// the place.
const (
	grant    = 'n' // a node of that kind, to have it
	stamp    = 's' // stores one of its fields, that isn't 0 any more
	exchange = 'e' // lets the place name the first one that it has, and takes out what was there
	takeOut  = 't' // lets the place name none, and takes out what was there
	giveBack = 'r' // Retire of the first one that is out
	stash    = 'a' // Stash of that
	look     = 'g' // guards the place, and looks at the node from then on
	end      = 'u' // lets a hazard name none
	name     = 'h' // lets a hazard name a node, whatever is done with that
	unhold   = 'c' // lets all its hazards name none
)

// todo is the jobs of a text: a kind stands behind a grant, a slot behind a look, an
// end and a name, and a node, as a letter, behind the slot of a name.
func todo(text string) []job {
	var l []job
	for i := 0; i < len(text); i++ {
		j := job{kind: text[i]}
		if strings.IndexByte("nguh", j.kind) >= 0 {
			i++
			j.i = int(text[i] - '0')
		}
		if j.kind == name {
			i++
			j.n = int(text[i] - 'a')
		}
		l = append(l, j)
	}
	return l
}

// trail is what a program did, the last access first. None is ever changed.
type trail struct {
	last  did
	ahead *trail
}

func (l *trail) all() []did {
	var all []did
	for ; l != nil; l = l.ahead {
		all = append(all, l.last)
	}
	slices.Reverse(all)
	return all
}

// one is a thread. It is a value, whose lists are never changed: a copy of it goes on
// from where it was.
type one struct {
	thread int
	jobs   []job // what is left to do
	now    job   // what q does
	q      prog.Prog[Grant]
	busy   bool
	trail  *trail // what q did
	has    []int
	out    []int
	kept   []int // those that it retired
	moved  bool  // whether one of these is named twice, ahead of the count's store
	giving int   // one that is given back, ahead of the count's store; or None
	flight int   // one that a Scan took out, and that isn't pushed yet; or None
	popped int   // one that is popped, and isn't granted yet; or None
	looks  [3]uint64
}

// The things that may happen; a tale is how often they did.
const (
	granted = iota
	noNode  // New is ErrQuota
	noRoom  // a Stash is None
	byNew   // a node was reclaimed by a New
	byStash // a node was reclaimed by a Stash
	anew    // a swap of the head began anew
	wasGone
	looked
	wasHeld // a node was retired while a hazard held it
	things
)

type tale [things]int

func (x tale) plus(y tale) tale {
	for i := range x {
		x[i] += y[i]
	}
	return x
}

// lacks are the things that happened less often than they must.
func (x tale) lacks(must tale) []int {
	var l []int
	for i := range x {
		if x[i] < must[i] {
			l = append(l, i)
		}
	}
	return l
}

// hold is a hazard, and the retired node that it holds, from ahead of that on.
type hold struct{ at, n int }

// crew is threads, the nodes that are gone, the Gen by which each node was granted
// last, and what must not be reclaimed.
type crew struct {
	ones  []one
	gone  []int
	gens  []int
	holds []hold
	tale  tale
}

// newCrew is so many threads that have nothing to do.
func newCrew(w *world, threads int) crew {
	c := crew{gens: slices.Repeat([]int{-1}, w.p.Nodes)}
	for i := range threads {
		c.ones = append(c.ones, one{thread: i, giving: api.None, flight: api.None, popped: api.None})
	}
	return c
}

func (c crew) clone() crew {
	c.ones, c.gens = slices.Clone(c.ones), slices.Clone(c.gens)
	return c
}

// with is the list, and behind that the others, in a list of its own.
func with[T any](l []T, more ...T) []T { return slices.Concat(l, more) }

// shared is the plan of those that work together; at is the place that they share.
func shared(nodes, threads, gen int) plan.Plan {
	return plan.Plan{Nodes: nodes, Threads: threads, Retire: 3*threads + 1, Domains: 1, Buckets: 1, Gen: gen}
}

func (w *world) at() int { return w.p.Cell(0, 1) }

// stampAt is the place of the node's field that is stamped.
func (w *world) stampAt(n int) int { return w.p.Field(n, n%3) }

const stamped = 77

// sharedWorld is a fresh world whose place names none.
func sharedWorld(t *testing.T, p plan.Plan) *world {
	t.Helper()
	w := freshWorld(t, p)
	w.put(w.at(), 0)
	return w
}

// then is the program, and then what that tells of the number that it comes to.
func then[R any](q prog.Prog[R], tell func(R) int) prog.Prog[Grant] {
	return prog.Then(q, func(r R) prog.Prog[Grant] { return prog.Done(Grant{Node: tell(r)}) })
}

func same(n int) int         { return n }
func zero[R any](R) int      { return 0 }
func number(word uint64) int { return int(word) }

// swapped is a program that lets the place have that word; it comes to the node that
// it named.
func swapped(at int, word uint64) prog.Prog[int] {
	return prog.Then(prog.Get(at), func(was uint64) prog.Prog[int] {
		return prog.Then(prog.Try(at, was, word), func(done bool) prog.Prog[int] {
			if !done {
				return swapped(at, word)
			}
			return prog.Done(int(was) - 1)
		})
	})
}

// program is what does the job.
func (o *one) program(w *world, j job) prog.Prog[Grant] {
	switch j.kind {
	case grant:
		return New(w.p, o.thread, j.i)
	case stamp:
		return then(prog.Set(w.stampAt(j.n), stamped), zero)
	case exchange:
		return then(swapped(w.at(), uint64(o.has[0]+1)), same)
	case takeOut:
		return then(swapped(w.at(), 0), same)
	case giveBack:
		return then(Retire(w.p, o.thread, o.giving), same)
	case stash:
		return then(Stash(w.p, o.thread, o.giving), same)
	case look:
		return then(hazard.Guard(w.p, o.thread, j.i, w.at(), 0), number)
	case end:
		return then(hazard.Set(w.p, o.thread, j.i, api.None), zero)
	case name:
		return then(hazard.Set(w.p, o.thread, j.i, j.n), zero)
	default:
		return then(hazard.Clear(w.p, o.thread), zero)
	}
}

// may tells whether the thread has what the job needs.
func (o *one) may(j job) bool {
	switch j.kind {
	case exchange:
		return len(o.has) > 0
	case giveBack, stash:
		return len(o.out) > 0
	}
	return true
}

// begin begins the next job that may be done, if the thread is at none; it is whether
// it is at one then.
func (o *one) begin(w *world) bool {
	for !o.busy && len(o.jobs) > 0 {
		j := o.jobs[0]
		o.jobs = o.jobs[1:]
		if !o.may(j) {
			continue
		}
		switch j.kind {
		case look, end, name:
			o.looks[j.i] = 0
		case unhold:
			o.looks = [3]uint64{}
		case giveBack, stash:
			o.giving, o.out = o.out[0], o.out[1:]
		}
		o.q, o.now, o.busy, o.trail = o.program(w, j), j, true, nil
	}
	return o.busy
}

// step does one step of the thread.
func (c *crew) step(w *world, i int) {
	o := &c.ones[i]
	a, _ := o.q.Access()
	c.touches(w, i, a)
	told := w.word(a.At)
	q, ok := o.q.Step(w.m, w.c)
	if !ok {
		w.t.Fatalf("%+v: a step of %c is refused", w.p, o.now.kind)
	}
	o.q, o.trail = q, &trail{did{a, told}, o.trail}
	c.note(w, o, a, told)
	if r, over := q.Over(); over {
		o.busy = false
		c.ended(w, o, r)
	}
}

// touches asks whether the access isn't one of another thread's count or retired words.
func (c *crew) touches(w *world, i int, a mem.Access) {
	for k := range c.ones {
		if first := w.p.Count(k); k != i && a.At >= first && a.At <= first+w.p.Retire {
			w.t.Fatalf("%+v: the thread %d does %+v: that is the thread %d's", w.p, i, a, k)
		}
	}
}

// note keeps account of a step: where the nodes are.
func (c *crew) note(w *world, o *one, a mem.Access, told uint64) {
	count := w.p.Count(o.thread)
	switch {
	case a.Op == mem.Swap && a.At == w.p.Head():
		c.swapped(w, o, a, told)
	case a.Op != mem.Store:
	case a.At == count:
		c.counted(w, o)
	case a.At > count && a.At <= count+len(o.kept):
		o.moved = true
	case o.flight != api.None && a.At == w.p.State(o.flight):
		if s, _ := state.Of(a.A); s.Mode == state.Gone {
			c.gone, o.flight = with(c.gone, o.flight), api.None
			c.tale[wasGone]++
		}
	default:
		c.holds = slices.DeleteFunc(slices.Clone(c.holds), func(h hold) bool { return h.at == a.At })
	}
}

// swapped keeps account of a swap of the head: a node is pushed, or popped.
func (c *crew) swapped(w *world, o *one, a mem.Access, told uint64) {
	switch {
	case told != a.A:
		c.tale[anew]++
	case o.flight == api.None:
		o.popped = int(a.A&(1<<21-1)) - 1
	default:
		is(w, int(a.B&(1<<21-1))-1, o.flight)
		o.flight = api.None
	}
}

// counted keeps account of a store of the thread's count: a node is retired, or taken
// out by a Scan.
func (c *crew) counted(w *world, o *one) {
	was := o.kept
	o.kept, o.moved = retire.List(w.p, w.m, mine, o.thread), false
	if len(o.kept) > len(was) {
		is(w, o.kept[len(was)], o.giving)
		c.held(w, o.giving)
		o.giving = api.None
		return
	}
	for _, n := range was {
		if !slices.Contains(o.kept, n) {
			o.flight = n
		}
	}
	c.tale[map[byte]int{grant: byNew, giveBack: byStash, stash: byStash}[o.now.kind]]++
}

// held keeps account of the hazards that hold the node, when it is retired.
func (c *crew) held(w *world, n int) {
	for i := range hazards(w.p) {
		if at := w.p.Hazard(i/3, i%3); w.word(at) == uint64(n+1) {
			c.holds = with(c.holds, hold{at, n})
			c.tale[wasHeld]++
		}
	}
}

// ended asks whether what the job came to is right, and keeps account of it.
func (c *crew) ended(w *world, o *one, r Grant) {
	switch j := o.now; j.kind {
	case grant:
		is(w, r, follows(w, o.trail.all(), grants(o.thread, j.i)))
		c.granted(w, o, r)
	case exchange, takeOut:
		if j.kind == exchange {
			o.has = o.has[1:]
		}
		if r.Node != api.None {
			o.out = with(o.out, r.Node)
		}
	case giveBack, stash:
		c.stashed(w, o, r.Node)
	case look:
		c.looked(w, o, j.i, uint64(r.Node))
	}
}

// granted asks whether what New came to is the node that was popped, with fields of 0,
// and a Gen that it never had.
func (c *crew) granted(w *world, o *one, g Grant) {
	n := o.popped
	o.popped = api.None
	if n == api.None {
		is(w, g, quota)
		c.tale[noNode]++
		return
	}
	is(w, g, Grant{Node: n, Gen: g.Gen})
	w.stateIs(n, g.Gen, state.Live, o.now.i)
	for f := range 3 {
		if word := w.word(w.p.Field(n, f)); word != 0 {
			w.t.Fatalf("%+v: the node %d is granted with %d in its field %d", w.p, n, word, f)
		}
	}
	if g.Gen <= c.gens[n] || g.Gen > w.p.Gen {
		w.t.Fatalf("%+v: the node %d is granted by the Gen %d, behind %d", w.p, n, g.Gen, c.gens[n])
	}
	c.gens[n] = g.Gen
	c.tale[granted]++
	o.has = with(o.has, n)
	o.jobs = with([]job{{kind: stamp, n: n}}, o.jobs...)
}

// stashed asks whether the Stash, or Retire, came to what it must; where there was no
// room the node is out, as it was.
func (c *crew) stashed(w *world, o *one, r int) {
	last := api.None
	if o.giving != api.None {
		o.out, o.giving = with([]int{o.giving}, o.out...), api.None
		c.tale[noRoom]++
	} else {
		last = o.kept[len(o.kept)-1]
	}
	n := last
	if n == api.None {
		n = o.out[0]
	}
	words := stashes(o.thread, n)
	if o.now.kind == giveBack {
		words = retires(o.thread, n)
		w.stateIs(n, c.gens[n], state.Retired, int(w.word(w.p.State(n))>>32))
	}
	is(w, r, follows(w, o.trail.all(), words))
	is(w, r, last)
}

// looked asks whether, where a Guard is over, the hazard names the place's node.
func (c *crew) looked(w *world, o *one, slot int, word uint64) {
	if word == 0 {
		return
	}
	if a, b := w.word(w.at()), w.word(w.p.Hazard(o.thread, slot)); a != word || b != word {
		w.t.Fatalf("%+v: a Guard comes to %d; the place has %d, the hazard %d", w.p, word, a, b)
	}
	o.looks[slot] = word
	c.tale[looked]++
}

// places are where a node may be, as the account has it.
type places struct {
	free, gone, had, between, retired []int
}

// places are where the nodes are: had is what the place names, too.
func (c *crew) places(w *world) places {
	x := places{free: free.List(w.p, w.m, mine), gone: c.gone}
	if word := w.word(w.at()); word != 0 {
		x.had = []int{int(word - 1)}
	}
	for _, o := range c.ones {
		x.had = append(append(x.had, o.has...), o.out...)
		x.retired = append(x.retired, o.kept...)
		for _, n := range []int{o.giving, o.flight, o.popped} {
			if n != api.None {
				x.between = append(x.between, n)
			}
		}
	}
	return x
}

// whole asks whether each node is at one place, once; whether the retired nodes are as
// their thread left them; and whether nobody is granted what is held.
func (c *crew) whole(w *world) {
	w.t.Helper()
	x := c.places(w)
	seen := make([]int, w.p.Nodes)
	for _, l := range [][]int{x.free, x.gone, x.had, x.between, x.retired} {
		for _, n := range l {
			seen[n]++
		}
	}
	if slices.ContainsFunc(seen, func(k int) bool { return k != 1 }) {
		w.t.Fatalf("%+v: the nodes are so often anywhere: %v; they are %+v", w.p, seen, x)
	}
	for _, o := range c.ones {
		if l := retire.List(w.p, w.m, mine, o.thread); !o.moved && !slices.Equal(l, o.kept) {
			w.t.Fatalf("%+v: the thread %d retired %v; List is %v", w.p, o.thread, o.kept, l)
		}
	}
	for _, h := range c.holds {
		if w.word(h.at) != uint64(h.n+1) || !slices.Contains(x.retired, h.n) {
			w.t.Fatalf("%+v: %+v: the hazard is %d; retired are %v", w.p, h, w.word(h.at), x.retired)
		}
	}
	w.modes(x)
	c.lookedAt(w, x)
}

// modes asks whether the nodes' states are those of where they are.
func (w *world) modes(x places) {
	w.t.Helper()
	mode := func(n int) int {
		s, ok := state.Of(w.word(w.p.State(n)))
		if !ok {
			w.t.Fatalf("%+v: the node %d's state is none", w.p, n)
		}
		return s.Mode
	}
	for _, n := range x.free {
		is(w, mode(n), state.Free)
	}
	for _, n := range x.gone {
		is(w, mode(n), state.Gone)
	}
	for _, n := range x.retired {
		if m := mode(n); m != state.Retired && m != state.Live {
			w.t.Fatalf("%+v: the retired node %d is %d", w.p, n, m)
		}
	}
}

// lookedAt asks whether each node that somebody looks at is as it was.
func (c *crew) lookedAt(w *world, x places) {
	w.t.Helper()
	for _, o := range c.ones {
		for slot, word := range o.looks {
			if word == 0 {
				continue
			}
			n := int(word - 1)
			if got := w.word(w.p.Hazard(o.thread, slot)); got != word {
				w.t.Fatalf("%+v: the thread %d looks at the node %d; its hazard is %d", w.p, o.thread, n, got)
			}
			if w.word(w.stampAt(n)) != stamped || slices.Contains(x.free, n) || slices.Contains(x.gone, n) {
				w.t.Fatalf("%+v: the thread %d looks at the node %d, that is reclaimed", w.p, o.thread, n)
			}
			for _, k := range c.ones {
				if k.popped == n || k.flight == n || slices.Contains(k.has, n) {
					w.t.Fatalf("%+v: the thread %d looks at the node %d, that the thread %d takes", w.p, o.thread, n, k.thread)
				}
			}
		}
	}
}

// alone lets one thread do these jobs, to their end.
func (c *crew) alone(w *world, i int, text string) {
	w.t.Helper()
	o := &c.ones[i]
	o.jobs = with(o.jobs, todo(text)...)
	for o.begin(w) {
		c.step(w, i)
		c.whole(w)
	}
}

// settle lets each thread end what it is at, clear its hazards, give back all that is
// out, and be granted nodes till there is none: then each node is had, or gone.
func (c *crew) settle(w *world) {
	w.t.Helper()
	for i := range c.ones {
		c.alone(w, i, "c")
	}
	for i := range c.ones {
		o := &c.ones[i]
		for len(o.out) > 0 {
			c.alone(w, i, "r")
		}
		was := c.tale[noNode]
		for c.tale[noNode] == was {
			c.alone(w, i, "n2")
		}
		w.listIs(i)
		w.freeIs()
	}
	x := c.places(w)
	is(w, len(x.had)+len(x.gone), w.p.Nodes)
}

// orders does the crew's steps in all orders, and is how many these are, and what
// happened in them, all together.
func (c crew) orders(w *world) (int, tale) {
	c.whole(w)
	ends, sum := 0, tale{}
	for i := range c.ones {
		next := c.clone()
		o := &next.ones[i]
		if !o.begin(w) {
			continue
		}
		a, _ := o.q.Access()
		was := w.word(a.At)
		next.step(w, i)
		n, more := next.orders(w)
		ends, sum = ends+n, sum.plus(more)
		w.put(a.At, was) // a step changes that word alone
	}
	if ends > 0 {
		return ends, sum
	}
	return 1, c.tale
}

// turn is what a thread does ahead of the orders, alone.
type turn struct {
	thread int
	text   string
}

// TestAllOrders: of a few steps of two and three threads; what must happen in some of
// them is asked.
func TestAllOrders(t *testing.T) {
	for i, x := range []struct {
		nodes, gen int
		ahead      []turn
		jobs       []string
		must       tale
	}{
		{3, 9, nil, []string{"n0", "n1"}, tale{granted: 1, anew: 1}},
		{1, 9, nil, []string{"n0", "n1"}, tale{granted: 1, noNode: 1, anew: 1}},
		{2, 9, []turn{{0, "n0e"}}, []string{"n0", "n1"}, tale{granted: 1, noNode: 1, anew: 1}},
		{1, 9, []turn{{0, "n0etr"}}, []string{"n0", "n1"}, tale{granted: 1, noNode: 1, byNew: 1, anew: 1}},
		{3, 9, []turn{{0, "n0en0etr"}, {1, "n0et"}}, []string{"n0", "a"}, tale{granted: 1, byNew: 1}},
		{2, 9, []turn{{0, "n0e"}, {1, "n0e"}}, []string{"n0", "tr"}, tale{noNode: 1}},
		{2, 9, []turn{{0, "n0en0etr"}, {1, "h0a"}}, []string{"n0", "u0"}, tale{granted: 1, noNode: 1, byNew: 1}},
		{2, 9, []turn{{0, "n0en0etrr"}, {1, "h1b"}}, []string{"n0", "h1a"}, tale{granted: 1, byNew: 1, noNode: 1}},
		{1, 9, []turn{{0, "n0e"}}, []string{"trn1", "g0"}, tale{granted: 1, noNode: 1, byNew: 1, looked: 1, wasHeld: 1}},
		{1, 9, []turn{{0, "n0e"}}, []string{"tan1", "g2u2"}, tale{granted: 1, noNode: 1, byNew: 1, looked: 1, wasHeld: 1}},
		{2, 9, []turn{{0, "n0en0e"}}, []string{"a", "tr"}, tale{}},
		{3, 9, []turn{{0, "n0en0e"}, {1, "n0e"}}, []string{"r", "r"}, tale{}},
		{3, 9, []turn{{0, "n0en0e"}, {1, "n0e"}}, []string{"a", "n1"}, tale{noNode: 1}},
		{4, 9, []turn{{0, "n0en0e"}}, []string{"r", "n1"}, tale{granted: 1}},
		{8, 9, []turn{{0, full7}, {1, "h0ah1bh2c"}, {0, "h0dh1eh2f"}}, []string{"r", "h0h"}, tale{byStash: 1}},
		{8, 9, []turn{{0, full7}, {1, "h0gh1bh2c"}, {0, "h0ah1dh2e"}}, []string{"a", "h0f"}, tale{byStash: 1, noRoom: 1}},
		{8, 9, []turn{{0, full7}, {1, "h0gh1bh2c"}, {0, "h0ah1dh2e"}}, []string{"r", "u0h0f"}, tale{byStash: 1, noRoom: 1}},
		{8, 9, []turn{{0, full7}, {1, "h0gh1fh2e"}, {0, "h0dh1ch2b"}}, []string{"r", "n1"}, tale{byStash: 1, granted: 1, noNode: 1}},
		{1, 1, []turn{{0, "n0etrn0etr"}}, []string{"n0", "n0"}, tale{noNode: 1, wasGone: 1}},
		{2, 1, []turn{{0, "n0en0etrn0er"}}, []string{"n0", "n1"}, tale{noNode: 1, granted: 1}},
		{2, 9, []turn{{0, "n0e"}, {1, "n0e"}, {2, "h0a"}}, []string{"n2", "r", "u0"}, tale{noNode: 1, wasHeld: 1}},
		{2, 9, []turn{{0, "n0etr"}}, []string{"n0", "h1a", "h0b"}, tale{granted: 1}},
		{1, 9, []turn{{0, "n0etr"}}, []string{"n0", "h1a", "h0a"}, tale{granted: 1, byNew: 1, noNode: 1}},
	} {
		p := shared(x.nodes, max(2, len(x.jobs)), x.gen)
		w := sharedWorld(t, p)
		c := newCrew(w, len(x.jobs))
		for _, a := range x.ahead {
			c.alone(w, a.thread, a.text)
		}
		c.tale = tale{}
		for k, text := range x.jobs {
			c.ones[k].jobs = todo(text)
		}
		ends, got := c.orders(w)
		if l := got.lacks(x.must); ends < 8 || len(l) > 0 {
			t.Errorf("the row %d: %d orders; there happened %v; too seldom %v", i, ends, got, l)
		}
	}
}

// full7 are jobs of a thread behind which it retired the nodes from 0 to 6, and 7 is
// out.
const full7 = "n0en0en0en0en0en0en0en0etrrrrrrr"

// jobs is a fixed row of so many things to do.
func (d *drawn) jobs(p plan.Plan, many int) []job {
	var l []job
	for range many {
		kinds := "nnnnnneeeeeerrrraaggghhcut"
		l = append(l, job{kind: kinds[d.below(len(kinds))], i: d.below(3), n: d.below(p.Nodes)})
	}
	return l
}

// play picks among the first so many threads, each for up to most steps at a time,
// till none of these has anything to do, and asks at each step whether all is whole.
func (d *drawn) play(w *world, c *crew, threads, most int) {
	w.t.Helper()
	for left := true; left; {
		i := d.below(threads)
		for range 1 + d.below(most) {
			if c.ones[i].begin(w) {
				c.step(w, i)
				c.whole(w)
			}
		}
		left = slices.ContainsFunc(c.ones[:threads], func(o one) bool { return o.busy || len(o.jobs) > 0 })
	}
}

// TestManyOrders: drawn by a fixed rule, of several threads, with few nodes, so that
// most are granted behind a Scan, and with more than may be retired.
func TestManyOrders(t *testing.T) {
	var sum tale
	for _, threads := range []int{2, 3, 5, 16} {
		for _, nodes := range []int{2 * threads, 12 * threads} {
			for _, most := range []int{1, 3, 9, 60} {
				for _, gen := range []int{3, api.MaxGen} {
					w := sharedWorld(t, shared(nodes, threads, gen))
					d, c := drawn(threads<<16+most<<8+nodes), newCrew(w, threads)
					for i := range threads {
						c.ones[i].jobs = d.jobs(w.p, 360/threads+40)
					}
					d.play(w, &c, threads, most)
					c.settle(w)
					sum = sum.plus(c.tale)
				}
			}
		}
	}
	if l := sum.lacks(tale{2000, 1000, 0, 1000, 100, 1000, 100, 500, 200}); len(l) > 0 {
		t.Errorf("there happened %v; too seldom %v", sum, l)
	}
}

// still is how a thread stands still: what it does, by how many retired nodes, and how
// many free ones there are.
type still struct {
	text          string
	retired, free int
}

// standing is a world of three threads: the last one retired so many nodes, of which
// the first thread looks at one, and hazards name two others; two nodes are out, and
// the others have what is left but for what is free.
func standing(t *testing.T, gen int, x still) (*world, crew) {
	w := sharedWorld(t, shared(x.retired+x.free+5, 3, gen))
	c := newCrew(w, 3)
	c.alone(w, 2, "n0e")
	c.alone(w, 0, "g1")
	c.alone(w, 2, strings.Repeat("n0e", x.retired+1)+"t"+strings.Repeat("r", x.retired))
	c.alone(w, 0, "h0bn0n0e")
	c.alone(w, 1, "h2cn0")
	is(w, len(c.ones[2].kept), x.retired)
	is(w, len(c.ones[2].out), 2)
	w.countIs(x.free)
	return w, c
}

// TestStandingStill: a New, a Stash and a Retire, with and without a Scan, stand still
// at each of their steps, while others are granted nodes, retire them, and set and
// clear hazards; then they go on, alone.
func TestStandingStill(t *testing.T) {
	for _, x := range []still{{"n0", 3, 2}, {"n1", 4, 0}, {"n2", 10, 0}, {"r", 3, 2}, {"a", 3, 0}, {"r", 10, 2}, {"a", 10, 0}} {
		for _, gen := range []int{2, api.MaxGen} {
			stops := 0
			for stop, left := 0, true; left; stop++ {
				for seed := range 14 / x.retired {
					w, c := standing(t, gen, x)
					left = c.stands(w, x.text, stop, drawn(1000*seed+stop))
				}
				stops++
			}
			if least := x.steps(); stops < least {
				t.Errorf("%+v: %d stops; there must be %d at least", x, stops, least)
			}
		}
	}
}

// steps is how many steps it does alone, at least.
func (x still) steps() int {
	switch {
	case x.text == "a" && x.retired < 10:
		return 3
	case x.text[0] != 'n' && x.retired < 10 || x.free > 0 && x.text[0] == 'n':
		return 5
	}
	return 5 + 18*(x.retired-3)
}

// stands lets the last thread stand still behind so many steps of the job; it is
// whether there was such a step.
func (c *crew) stands(w *world, text string, stop int, d drawn) bool {
	w.t.Helper()
	o := &c.ones[2]
	o.jobs = todo(text)
	for range stop {
		if !o.begin(w) {
			return false
		}
		c.step(w, 2)
		c.whole(w)
	}
	for i := range 2 {
		c.ones[i].jobs = d.jobs(w.p, 30)
	}
	d.play(w, c, 2, 4)
	left := 0
	for ; o.begin(w); left++ {
		c.step(w, 2)
		c.whole(w)
	}
	// Of each node that may be retired the questions, and a Reclaim; of each swap one
	// that begins anew.
	if left > 22*w.p.Retire+30 {
		w.t.Errorf("%+v: %s: %d steps, alone", w.p, text, left)
	}
	c.settle(w)
	return true
}
