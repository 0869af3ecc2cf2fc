package check

import (
	"slices"
	"strings"
	"testing"

	"cubicle/api"
	"cubicle/free"
	"cubicle/mem"
	"cubicle/plan"
	"cubicle/prog"
	"cubicle/retire"
	"cubicle/state"
)

// P13.4, in company: threads of one tenant work with the same handles.

// job is a thing for a thread to do with a field of a handle's node: of the h-th one
// that was granted, or of one that is found by from.
type job struct {
	kind byte
	h, f int
	from byte
}

// How a handle is found: from the first one on, from the last one on, or among those
// that are live.
const (
	fromFirst = iota
	fromLast
	amongLive
)

// The kinds of jobs.
const (
	grant = 'n'
	drop  = 'd'
	read  = 'r'
	write = 'w'
	swap  = 's'
)

// todo is the jobs of a text: behind all but a grant stands a letter, of a handle, and
// behind a read, a write and a swap a number, of a field.
func todo(text string) []job {
	var l []job
	for i := 0; i < len(text); i++ {
		j := job{kind: text[i]}
		if j.kind != grant {
			i++
			j.h = int(text[i] - 'a')
		}
		if strings.IndexByte("rws", j.kind) >= 0 {
			i++
			j.f = int(text[i] - '0')
		}
		l = append(l, j)
	}
	return l
}

// trail is what a program did, the last access first. None is ever changed.
type trail struct {
	last  did
	ahead *trail
}

func (l *trail) all() []did {
	var all []did
	for ; l != nil; l = l.ahead {
		all = append(all, l.last)
	}
	slices.Reverse(all)
	return all
}

// one is a thread. It is a value, whose lists are never changed: a copy of it goes on
// from where it was.
type one struct {
	thread  int
	jobs    []job // what is left to do
	now     job   // what it is at
	h       int   // the handle that it is at; or None
	late    bool  // whether that was dropped ahead of its beginning
	did     bool  // whether it was the one that dropped that
	q       program
	words   func(chapter) api.Res
	busy    bool
	trail   *trail // what q did
	kept    []int  // the nodes that it retired
	moved   bool   // whether one of these is named twice, ahead of the count's store
	giving  int    // one that is dropped, ahead of the count's store; or None
	flight  int    // one that a Scan took out, and that isn't pushed yet; or None
	popped  int    // one that is popped, and isn't granted yet; or None
	looking int    // one that it looks at: from the second load on, till that is done
}

// owned is a handle that was granted.
type owned struct {
	word    uint64
	n, gen  int
	dropped bool
}

// The things that may happen; a tale is how often they did.
const (
	newNode = iota
	noNode  // New is ErrQuota
	byNew   // a node was reclaimed by a New
	byDrop  // a node was reclaimed by a Drop
	anew    // a swap of the head began anew
	wasGone
	looked     // something was done with a node
	behindDrop // something was done with a node that was dropped already
	wasBad     // the word was bad at the first load
	between    // it was bad at the second one
	dropped
	noDrop // another one dropped it between the load and the swap
	wasHeld
	swapped
	noSwap
	things
)

type tale [things]int

func (x tale) plus(y tale) tale {
	for i := range x {
		x[i] += y[i]
	}
	return x
}

// lacks are the things that happened less often than they must.
func (x tale) lacks(must tale) []int {
	var l []int
	for i := range x {
		if x[i] < must[i] {
			l = append(l, i)
		}
	}
	return l
}

// crew is threads, the handles that were granted, in order, the nodes that are gone,
// and what the nodes' fields must be.
type crew struct {
	ones   []one
	all    []owned
	gone   []int
	fields [][3]uint64
	values uint64 // how many values were given out
	tale   tale
}

// ourTenant is the tenant whose threads they are.
const ourTenant = 44

// newCrew is so many threads that have nothing to do.
func newCrew(w *world, threads int) crew {
	c := crew{fields: make([][3]uint64, w.p.Nodes)}
	for i := range threads {
		c.ones = append(c.ones, one{thread: i, giving: api.None, flight: api.None, popped: api.None, looking: api.None})
	}
	return c
}

func (c crew) clone() crew {
	c.ones, c.all, c.fields = slices.Clone(c.ones), slices.Clone(c.all), slices.Clone(c.fields)
	return c
}

// with is the list, and behind that the others, in a list of its own.
func with[T any](l []T, more ...T) []T { return slices.Concat(l, more) }

// shared is the plan of those that work together.
func shared(nodes, threads, gen int) plan.Plan {
	return plan.Plan{Nodes: nodes, Threads: threads, Retire: 3*threads + 1, Buckets: 1, Gen: gen}
}

// value is one that was never given out.
func (c *crew) value() uint64 {
	c.values++
	return c.values<<8 | 1
}

// handle is the handle that the job is of; None, if there is none.
func (c *crew) handle(j job) int {
	if j.from == amongLive {
		return c.live(j.h)
	}
	switch {
	case j.h >= len(c.all):
		return api.None
	case j.from == fromLast:
		return len(c.all) - 1 - j.h
	}
	return j.h
}

// live is one of the handles that are live; None, if none is.
func (c *crew) live(k int) int {
	var l []int
	for i, h := range c.all {
		if !h.dropped {
			l = append(l, i)
		}
	}
	if len(l) == 0 {
		return api.None
	}
	return l[k%len(l)]
}

// noHandle is a word that is no handle's.
const noHandle = 41<<58 | ourTenant<<50

// call is what does the thread's job.
func (c *crew) call(w *world, o *one) call {
	s, word, is := w.seat(ourTenant, o.thread), uint64(noHandle), uint64(0)
	if o.h != api.None {
		word, is = c.all[o.h].word, c.fields[c.all[o.h].n][o.now.f]
	}
	switch o.now.kind {
	case grant:
		return callNew(s)
	case drop:
		return callDrop(s, word)
	case read:
		return callRead(s, word, o.now.f)
	case write:
		return callWrite(s, word, o.now.f, c.value())
	default:
		return callSwap(s, word, o.now.f, is, c.value())
	}
}

// begin begins the thread's next job, if it is at none; it is whether it is at one
// then. What is over at once is told to be bad.
func (c *crew) begin(w *world, i int) bool {
	o := &c.ones[i]
	for !o.busy && len(o.jobs) > 0 {
		o.now, o.jobs = o.jobs[0], o.jobs[1:]
		o.h, o.did, o.trail = c.handle(o.now), false, nil
		o.late = o.now.kind != grant && (o.h == api.None || c.all[o.h].dropped)
		x := c.call(w, o)
		o.q, o.words, o.busy = x.q, x.words, true
		if r, over := o.q.Over(); over {
			is(w, o.h, api.None)
			c.ended(w, o, r)
		}
	}
	return o.busy
}

// step does one step of the thread.
func (c *crew) step(w *world, i int) {
	o := &c.ones[i]
	a, _ := o.q.Access()
	c.touches(w, i, a)
	told := w.word(a.At)
	q, ok := o.q.Step(w.m, w.c)
	if !ok {
		w.t.Fatalf("%+v: a step of %c is refused", w.p, o.now.kind)
	}
	o.q, o.trail = q, &trail{did{a, told}, o.trail}
	c.note(w, o, a, told)
	if r, over := q.Over(); over {
		c.ended(w, o, r)
	}
}

// touches asks whether the access isn't one of another thread's count or retired
// words, and stores no hazard but the first one of its own.
func (c *crew) touches(w *world, i int, a mem.Access) {
	for k := range c.ones {
		first := w.p.Count(k)
		if k != i && a.At >= first && a.At <= first+w.p.Retire {
			w.t.Fatalf("%+v: the thread %d does %+v: that is the thread %d's", w.p, i, a, k)
		}
	}
	if a.Op != mem.Load && a.At >= w.p.Hazard(0, 0) && a.At < w.p.Count(0) {
		is(w, a.At, w.p.Hazard(i, 0))
	}
}

// note keeps account of a step.
func (c *crew) note(w *world, o *one, a mem.Access, told uint64) {
	count := w.p.Count(o.thread)
	switch {
	case strings.IndexByte("rws", o.now.kind) >= 0:
		c.look(w, o, a, told)
	case a.Op == mem.Swap && a.At == w.p.Head():
		c.head(w, o, a, told)
	case a.Op == mem.Swap:
		c.drops(w, o, a, told)
	case a.Op != mem.Store:
	case a.At == count:
		c.counted(w, o)
	case a.At > count && a.At <= count+len(o.kept):
		o.moved = true
	case o.flight != api.None:
		c.reclaims(w, o, a)
	}
}

// look keeps account of a step of a Read, a Write or a Swap.
func (c *crew) look(w *world, o *one, a mem.Access, told uint64) {
	h := c.all[o.h]
	switch a.At {
	case w.p.State(h.n):
		good, second := told == stateWord(h.gen, state.Live, state.Plain), o.trail.ahead != nil
		switch {
		case !good && second:
			c.tale[between]++
		case !good:
			c.tale[wasBad]++
		case second:
			o.looking = h.n
		}
	case w.p.Hazard(o.thread, 0):
		if a.A == 0 {
			o.looking = api.None
		}
	default:
		is(w, a.At, w.p.Field(h.n, o.now.f))
		is(w, o.looking, h.n)
		c.done(w, o, a, told)
	}
}

// done keeps account of what is done with the node that the thread looks at.
func (c *crew) done(w *world, o *one, a mem.Access, told uint64) {
	h := c.all[o.h]
	field := &c.fields[h.n][o.now.f]
	is(w, told, *field)
	c.tale[looked]++
	if h.dropped {
		c.tale[behindDrop]++
	}
	switch {
	case a.Op == mem.Store:
		*field = a.A
	case a.Op == mem.Swap && told == a.A:
		*field = a.B
		c.tale[swapped]++
	case a.Op == mem.Swap:
		c.tale[noSwap]++
	}
}

// head keeps account of a swap of the head: a node is pushed, or popped.
func (c *crew) head(w *world, o *one, a mem.Access, told uint64) {
	switch {
	case told != a.A:
		c.tale[anew]++
	case o.flight == api.None:
		o.popped = int(a.A&(1<<21-1)) - 1
	default:
		is(w, int(a.B&(1<<21-1))-1, o.flight)
		o.flight = api.None
	}
}

// drops keeps account of a Drop's swap of the state.
func (c *crew) drops(w *world, o *one, a mem.Access, told uint64) {
	h := &c.all[o.h]
	is(w, a.At, w.p.State(h.n))
	if told != a.A {
		is(w, h.dropped, true)
		c.tale[noDrop]++
		return
	}
	is(w, h.dropped, false)
	h.dropped, o.did, o.giving = true, true, h.n
	c.tale[dropped]++
	if slices.ContainsFunc(c.ones, func(x one) bool { return x.looking == h.n }) {
		c.tale[wasHeld]++
	}
}

// counted keeps account of a store of the thread's count: a node is retired, or taken
// out by a Scan.
func (c *crew) counted(w *world, o *one) {
	was := o.kept
	o.kept, o.moved = retire.List(w.p, w.m, mine, o.thread), false
	if len(o.kept) > len(was) {
		is(w, o.kept[len(was)], o.giving)
		o.giving = api.None
		return
	}
	for _, n := range was {
		if !slices.Contains(o.kept, n) {
			o.flight = n
		}
	}
	c.tale[map[byte]int{grant: byNew, drop: byDrop}[o.now.kind]]++
}

// reclaims keeps account of a store of a Reclaim.
func (c *crew) reclaims(w *world, o *one, a mem.Access) {
	for f := range 3 {
		if a.At == w.p.Field(o.flight, f) {
			c.fields[o.flight][f] = 0
		}
	}
	if s, _ := state.Of(a.A); a.At == w.p.State(o.flight) && s.Mode == state.Gone {
		c.gone, o.flight = with(c.gone, o.flight), api.None
		c.tale[wasGone]++
	}
}

// ended asks whether what the job came to is right, and keeps account of it.
func (c *crew) ended(w *world, o *one, r api.Res) {
	is(w, r, w.follows(o.trail.all(), o.words))
	o.busy = false
	is(w, w.word(w.p.Hazard(o.thread, 0)), 0)
	is(w, o.looking, api.None)
	switch {
	case o.now.kind == grant:
		c.granted(w, o, r)
		return
	case r == badHandle:
		is(w, o.h == api.None || c.all[o.h].dropped, true)
	default:
		is(w, r.E, api.OK)
		is(w, o.late, false)
	}
	if o.now.kind == drop {
		is(w, o.did, r == done)
		is(w, o.giving, api.None)
	}
}

// granted asks whether what New came to is a handle that never was, of the node that
// was popped, with fields of 0.
func (c *crew) granted(w *world, o *one, r api.Res) {
	n := o.popped
	o.popped = api.None
	if n == api.None {
		is(w, r, quota)
		c.tale[noNode]++
		return
	}
	gen := int(r.V >> 20 & (1<<30 - 1))
	is(w, r, value(named(n, gen, ourTenant)))
	w.stateIs(n, gen, state.Live, state.Plain)
	for f := range 3 {
		is(w, w.word(w.p.Field(n, f)), 0)
	}
	for _, h := range c.all {
		if h.n == n && h.gen >= gen || gen > w.p.Gen {
			w.t.Fatalf("%+v: the node %d is granted by the Gen %d, behind %d", w.p, n, gen, h.gen)
		}
	}
	c.all = with(c.all, owned{word: r.V, n: n, gen: gen})
	c.tale[newNode]++
}

// places are where the nodes are, as the account has it: those that are live are had.
type places struct {
	free, gone, had, between, retired []int
}

func (c *crew) places(w *world) places {
	x := places{free: free.List(w.p, w.m, mine), gone: c.gone}
	for _, h := range c.all {
		if !h.dropped {
			x.had = append(x.had, h.n)
		}
	}
	for _, o := range c.ones {
		x.retired = append(x.retired, o.kept...)
		for _, n := range []int{o.giving, o.flight, o.popped} {
			if n != api.None {
				x.between = append(x.between, n)
			}
		}
	}
	return x
}

// whole asks whether each node is at one place, once; whether their words are those of
// where they are; and whether nobody is granted what is looked at.
func (c *crew) whole(w *world) {
	w.t.Helper()
	x := c.places(w)
	seen := make([]int, w.p.Nodes)
	for _, l := range [][]int{x.free, x.gone, x.had, x.between, x.retired} {
		for _, n := range l {
			seen[n]++
		}
	}
	if slices.ContainsFunc(seen, func(k int) bool { return k != 1 }) {
		w.t.Fatalf("%+v: the nodes are so often anywhere: %v; they are %+v", w.p, seen, x)
	}
	for _, o := range c.ones {
		if l := retire.List(w.p, w.m, mine, o.thread); !o.moved && !slices.Equal(l, o.kept) {
			w.t.Fatalf("%+v: the thread %d retired %v; List is %v", w.p, o.thread, o.kept, l)
		}
	}
	c.modes(w, x)
	c.lookedAt(w, x)
	for n, fields := range c.fields {
		for f, want := range fields {
			if got := w.word(w.p.Field(n, f)); got != want {
				w.t.Fatalf("%+v: the node %d's field %d is %d; want %d", w.p, n, f, got, want)
			}
		}
	}
}

// modes asks whether the nodes' states are those of where they are.
func (c *crew) modes(w *world, x places) {
	w.t.Helper()
	for mode, l := range map[int][]int{state.Free: x.free, state.Gone: x.gone, state.Retired: x.retired} {
		for _, n := range l {
			if s, ok := state.Of(w.word(w.p.State(n))); !ok || s.Mode != mode || s.Kind != state.Plain {
				w.t.Fatalf("%+v: the node %d's state is %+v; want the mode %d", w.p, n, s, mode)
			}
		}
	}
	for _, h := range c.all {
		if !h.dropped {
			w.stateIs(h.n, h.gen, state.Live, state.Plain)
		}
	}
}

// lookedAt asks whether each node that somebody looks at is nobody else's: neither free
// nor gone, neither taken nor granted by another Gen.
func (c *crew) lookedAt(w *world, x places) {
	w.t.Helper()
	for _, o := range c.ones {
		n := o.looking
		if n == api.None {
			continue
		}
		is(w, w.word(w.p.Hazard(o.thread, 0)), uint64(n+1))
		if slices.Contains(x.free, n) || slices.Contains(x.gone, n) {
			w.t.Fatalf("%+v: the thread %d looks at the node %d, that is reclaimed", w.p, o.thread, n)
		}
		for _, k := range c.ones {
			if k.popped == n || k.flight == n {
				w.t.Fatalf("%+v: the thread %d looks at the node %d, that the thread %d takes", w.p, o.thread, n, k.thread)
			}
		}
		if s, _ := state.Of(w.word(w.p.State(n))); s.Gen != c.all[o.h].gen {
			w.t.Fatalf("%+v: the thread %d looks at the node %d of the Gen %d: it is %+v", w.p, o.thread, n, c.all[o.h].gen, s)
		}
	}
}

// alone lets one thread do these jobs, so many steps at most.
func (c *crew) alone(w *world, i int, text string, most int) {
	w.t.Helper()
	o := &c.ones[i]
	o.jobs = with(o.jobs, todo(text)...)
	for k := 0; k < most && c.begin(w, i); k++ {
		c.step(w, i)
		c.whole(w)
	}
}

// toEnd is more steps than any row of jobs has.
const toEnd = 1 << 20

// settle lets each thread end what it is at, and be granted nodes till there is none;
// then nobody holds a node: each one is had, or gone.
func (c *crew) settle(w *world) {
	w.t.Helper()
	for i := range c.ones {
		c.alone(w, i, "", toEnd)
	}
	for i := range c.ones {
		was := c.tale[noNode]
		for c.tale[noNode] == was {
			c.alone(w, i, "n", toEnd)
		}
		w.listIs(i)
		w.freeIs()
	}
	x := c.places(w)
	is(w, len(x.had)+len(x.gone), w.p.Nodes)
}

// orders does the crew's steps in all orders, and is how many these are, and what
// happened in them, all together.
func (c crew) orders(w *world) (int, tale) {
	c.whole(w)
	ends, sum := 0, tale{}
	for i := range c.ones {
		next := c.clone()
		if !next.begin(w, i) {
			continue
		}
		a, _ := next.ones[i].q.Access()
		was := w.word(a.At)
		next.step(w, i)
		n, more := next.orders(w)
		ends, sum = ends+n, sum.plus(more)
		w.put(a.At, was) // a step changes that word alone
	}
	if ends > 0 {
		return ends, sum
	}
	return 1, c.tale
}

// turn is what a thread does ahead of the orders, alone, so many steps of it at most.
type turn struct {
	thread int
	text   string
	steps  int
}

// TestAllOrders: of a few steps of two and three threads; what must happen in some of
// them is asked.
func TestAllOrders(t *testing.T) {
	first := []turn{{0, "n", toEnd}}
	two := []turn{{0, "nn", toEnd}}
	for i, x := range []struct {
		nodes, gen int
		ahead      []turn
		jobs       []string
		must       tale
	}{
		{1, 9, first, []string{"da", "da"}, tale{dropped: 1, noDrop: 1}},
		{1, 9, first, []string{"da", "da", "da"}, tale{dropped: 1, noDrop: 2}},
		{1, 9, first, []string{"da", "ra0"}, tale{dropped: 1, looked: 1, behindDrop: 1, wasBad: 1, between: 1, wasHeld: 1}},
		{1, 9, first, []string{"da", "wa1"}, tale{dropped: 1, looked: 1, behindDrop: 1, wasBad: 1, between: 1, wasHeld: 1}},
		{1, 9, first, []string{"da", "sa2"}, tale{dropped: 1, looked: 1, behindDrop: 1, wasBad: 1, between: 1, wasHeld: 1, swapped: 1}},
		{1, 9, first, []string{"sa0", "sa0"}, tale{looked: 2, swapped: 1, noSwap: 1}},
		{1, 9, first, []string{"wa0", "ra0"}, tale{looked: 2}},
		{1, 9, first, []string{"wa0", "sa0"}, tale{looked: 2, swapped: 1, noSwap: 1}},
		{1, 9, first, []string{"wa0ra0", "wa0"}, tale{looked: 3}},
		{2, 9, two, []string{"da", "rb0"}, tale{dropped: 1, looked: 1}},
		{2, 9, two, []string{"da", "db"}, tale{dropped: 2}},
		{2, 9, nil, []string{"n", "n"}, tale{newNode: 2, anew: 1}},
		{1, 9, nil, []string{"n", "n"}, tale{newNode: 1, anew: 1, noNode: 1}},
		{1, 9, nil, []string{"nwa1", "ra1"}, tale{newNode: 1, looked: 2}},
		{1, 9, []turn{{0, "nda", toEnd}}, []string{"n", "ra0"}, tale{newNode: 1, byNew: 1, wasBad: 1}},
		{1, 9, []turn{{0, "n", toEnd}, {1, "ra0", 1}, {0, "da", toEnd}}, []string{"n", ""}, tale{newNode: 1, noNode: 1, between: 1, byNew: 1}},
		{1, 9, []turn{{0, "n", toEnd}, {1, "wa0", 2}, {0, "da", toEnd}}, []string{"nrb0", ""}, tale{newNode: 1, noNode: 1, between: 1}},
		{1, 9, []turn{{0, "n", toEnd}, {1, "wa0", 3}, {0, "da", toEnd}}, []string{"nrb0", ""}, tale{newNode: 1, noNode: 1, behindDrop: 1, byNew: 1}},
		{1, 9, []turn{{0, "n", toEnd}, {1, "sa2", 3}, {0, "da", toEnd}}, []string{"nrb2", "rb2"}, tale{newNode: 1, noNode: 1, swapped: 1}},
		{1, 9, []turn{{0, "n", toEnd}, {1, "wa0", 3}}, []string{"dan", ""}, tale{newNode: 1, noNode: 1, behindDrop: 1, wasHeld: 1}},
		{1, 9, []turn{{0, "n", toEnd}, {1, "sa0", 1}}, []string{"dan", ""}, tale{newNode: 1, noNode: 1, between: 1, behindDrop: 1}},
		{1, 9, first, []string{"dawa0", "ra0"}, tale{dropped: 1, wasBad: 1, behindDrop: 1, between: 1}},
		{8, 9, with(full7, turn{1, "wh0", 3}), []string{"dh", ""}, tale{byDrop: 7, dropped: 1, behindDrop: 1, wasHeld: 1}},
		{8, 9, with(full7[:1], turn{1, "ra0", 3}, full7[1]), []string{"dh", ""}, tale{byDrop: 7, dropped: 1, behindDrop: 1}},
		{1, 1, []turn{{0, "ndan", toEnd}, {1, "wb0", 3}, {0, "db", toEnd}}, []string{"nn", ""}, tale{noNode: 2, wasGone: 1, behindDrop: 1}},
		{1, 9, first, []string{"da", "da", "ra0"}, tale{dropped: 1, noDrop: 1, looked: 1, between: 1, wasBad: 1, behindDrop: 1}},
		{1, 9, with(first, turn{0, "sa0", 1}, turn{1, "sa0", 1}), []string{"", "", "da"}, tale{dropped: 1, looked: 2, swapped: 1, noSwap: 1, between: 1, behindDrop: 2}},
		{1, 9, []turn{{0, "n", toEnd}, {1, "wa0", 3}, {2, "ra0", 3}, {0, "da", toEnd}}, []string{"n", "", ""}, tale{newNode: 1, noNode: 1, behindDrop: 2}},
	} {
		p := shared(x.nodes, max(2, len(x.jobs)), x.gen)
		w := freshWorld(t, p)
		c := newCrew(w, len(x.jobs))
		for _, a := range x.ahead {
			c.alone(w, a.thread, a.text, a.steps)
		}
		c.tale = tale{}
		for k, text := range x.jobs {
			c.ones[k].jobs = todo(text)
		}
		ends, got := c.orders(w)
		if l := got.lacks(x.must); ends < 3 || len(l) > 0 {
			t.Errorf("the row %d: %d orders; there happened %v; too seldom %v", i, ends, got, l)
		}
	}
}

// full7 are turns behind which the thread 0 retired as many nodes as it may, of two
// threads, and has one more.
var full7 = []turn{{0, "nnnnnnnn", toEnd}, {0, "dadbdcdddedfdg", toEnd}}

// jobs is a fixed row of so many things to do, with the last handles mostly, and those
// that are live.
func (d *drawn) jobs(p plan.Plan, many int) []job {
	var l []job
	for range many {
		kinds := "nnnnndddddrrwwwsss"
		j := job{kind: kinds[d.below(len(kinds))], f: d.below(3)}
		if d.below(2) == 0 {
			j.from, j.h = amongLive, d.below(d.below(p.Nodes)+1)
		} else {
			j.from, j.h = fromLast, d.below(d.below(2*p.Nodes)+1)
		}
		l = append(l, j)
	}
	return l
}

// play picks among the first so many threads, each for up to most steps at a time,
// till none of these has anything to do, and asks at each step whether all is whole.
func (d *drawn) play(w *world, c *crew, threads, most int) {
	w.t.Helper()
	for left := true; left; {
		i := d.below(threads)
		for range 1 + d.below(most) {
			if c.begin(w, i) {
				c.step(w, i)
				c.whole(w)
			}
		}
		left = slices.ContainsFunc(c.ones[:threads], func(o one) bool { return o.busy || len(o.jobs) > 0 })
	}
}

// TestManyOrders: drawn by a fixed rule, of several threads, with few nodes, so that
// most are granted behind a Scan, and with more than may be retired.
func TestManyOrders(t *testing.T) {
	var sum tale
	for _, threads := range []int{2, 3, 5, 16} {
		for _, nodes := range []int{1, 3, 2 * threads, min(14*threads, 70)} {
			for _, most := range []int{1, 3, 9, 60} {
				for _, gen := range []int{3, api.MaxGen} {
					w := freshWorld(t, shared(nodes, threads, gen))
					d, c := drawn(threads<<16+most<<8+nodes), newCrew(w, threads)
					for i := range threads {
						c.ones[i].jobs = d.jobs(w.p, 300/threads+20)
					}
					d.play(w, &c, threads, most)
					c.settle(w)
					sum = sum.plus(c.tale)
				}
			}
		}
	}
	if l := sum.lacks(tale{1000, 1000, 1000, 100, 1000, 100, 1000, 50, 1000, 100, 1000, 50, 50, 500, 30}); len(l) > 0 {
		t.Errorf("there happened %v; too seldom %v", sum, l)
	}
}

// still is how a thread stands still: what it does, by how many retired nodes, and how
// many free ones there are.
type still struct {
	kind          string
	retired, free int
}

// standing is a world of three threads: the last one retired so many nodes, of which
// the two others look at one each, and three handles are live.
func standing(t *testing.T, gen int, x still) (*world, crew) {
	w := freshWorld(t, shared(x.retired+x.free+3, 3, gen))
	c := newCrew(w, 3)
	c.alone(w, 2, strings.Repeat("n", x.retired+3), toEnd)
	c.alone(w, 0, "ra0", 3)
	c.alone(w, 1, "wb1", 3)
	for i := range x.retired {
		c.alone(w, 2, "d"+string(rune('a'+i)), toEnd)
	}
	is(w, len(c.ones[2].kept), x.retired)
	is(w, len(free.List(w.p, w.m, mine)), x.free)
	c.tale = tale{}
	return w, c
}

// job is a text of what the last thread does: with the first one of the live handles.
func (x still) job() string {
	handle := string(rune('a' + x.retired))
	switch x.kind {
	case "n":
		return "n"
	case "d":
		return "d" + handle
	}
	return x.kind + handle + "2"
}

// TestStandingStill: each call, with and without a Scan, stands still at each of its
// steps, while others do all of these with the same node and others; then it goes on,
// alone.
func TestStandingStill(t *testing.T) {
	var sum tale
	for _, x := range []still{{"n", 3, 2}, {"n", 4, 0}, {"n", 10, 0}, {"d", 3, 2}, {"d", 10, 2}, {"d", 10, 0},
		{"r", 2, 0}, {"w", 2, 0}, {"s", 2, 0}, {"r", 2, 2}, {"w", 2, 2}, {"s", 2, 2}} {
		for _, gen := range []int{2, api.MaxGen} {
			stops := 0
			for stop, left := 0, true; left; stop++ {
				for seed := range 14 / x.retired {
					w, c := standing(t, gen, x)
					left = c.stands(w, x.job(), stop, drawn(1000*seed+stop))
					sum = sum.plus(c.tale)
				}
				stops++
			}
			if least := x.steps(); stops < least {
				t.Errorf("%+v: %d stops; there must be %d at least", x, stops, least)
			}
		}
	}
	if l := sum.lacks(tale{wasGone: 50, behindDrop: 50, between: 50, noDrop: 5, wasHeld: 50, byNew: 100, byDrop: 50}); len(l) > 0 {
		t.Errorf("there happened %v; too seldom %v", sum, l)
	}
}

// steps is how many steps it does alone, at least.
func (x still) steps() int {
	if x.kind == "n" && x.free == 0 || x.retired == 10 {
		return 5 + 18*(x.retired-2)
	}
	return 5
}

// stands lets the last thread stand still behind so many steps of the job; it is
// whether there was such a step.
func (c *crew) stands(w *world, text string, stop int, d drawn) bool {
	w.t.Helper()
	o := &c.ones[2]
	o.jobs = todo(text)
	for range stop {
		if !c.begin(w, 2) {
			return false
		}
		c.step(w, 2)
		c.whole(w)
	}
	for i := range 2 {
		c.ones[i].jobs = d.jobs(w.p, 30)
	}
	d.play(w, c, 2, 4)
	left := 0
	for ; c.begin(w, 2); left++ {
		c.step(w, 2)
		c.whole(w)
	}
	// Of each node that may be retired the questions, and a Reclaim; of each swap one
	// that begins anew.
	if left > 22*w.p.Retire+30 {
		w.t.Errorf("%+v: %s: %d steps, alone", w.p, text, left)
	}
	c.settle(w)
	return true
}

// TestDropsByOneWord: of so many threads, which begin by the same word, one is OK, and
// all others are told that it is bad, in whatever order they go on.
func TestDropsByOneWord(t *testing.T) {
	for _, threads := range []int{2, 3, 16} {
		for seed := range 40 {
			w, d := freshWorld(t, shared(2, threads, 9)), drawn(seed)
			c := newCrew(w, threads)
			c.alone(w, 0, "nn", toEnd)
			for i := range threads {
				c.alone(w, i, "da", seed%2)
			}
			d.play(w, &c, threads, 2)
			is(w, c.tale[dropped], 1)
			if seed%2 == 1 {
				is(w, c.tale[noDrop], threads-1)
			}
			c.settle(w)
		}
	}
}

// TestAllThreadsLook: each thread but one looks at the node, that is dropped; it is
// granted when the last one is done, and not ahead of that.
func TestAllThreadsLook(t *testing.T) {
	for _, threads := range []int{2, 3, 5, 16} {
		for seed := range 10 {
			w, d := freshWorld(t, shared(1, threads, 9)), drawn(seed)
			c := newCrew(w, threads)
			last := threads - 1
			c.alone(w, last, "n", toEnd)
			for i := range last {
				c.alone(w, i, []string{"ra0", "wa0", "sa1"}[d.below(3)], 3)
			}
			c.alone(w, last, "da", toEnd)
			for k, i := range d.order(last) {
				for range 1 + d.below(2) {
					c.alone(w, last, "n", toEnd)
				}
				is(w, c.tale[newNode], 1)
				c.alone(w, i, "ra2", 1)
				c.alone(w, last, "n", toEnd)
				is(w, c.tale[newNode], 1)
				c.alone(w, i, "", toEnd)
				is(w, c.tale[behindDrop], k+1)
				is(w, c.tale[wasBad], k+1)
			}
			c.alone(w, last, "nrb0rb1rb2", toEnd)
			is(w, c.tale[newNode], 2)
		}
	}
}

// TestNobodyBetween: what answers ErrBadHandle alone changes no word, whatever was
// done ahead of it.
func TestNobodyBetween(t *testing.T) {
	w, d := freshWorld(t, shared(5, 3, 4)), drawn(13)
	c := newCrew(w, 3)
	for range 60 {
		for i := range c.ones {
			c.ones[i].jobs = d.jobs(w.p, 2)
		}
		d.play(w, &c, 3, 3)
		for _, h := range c.all {
			if !h.dropped {
				continue
			}
			for _, x := range calls(w.seat(ourTenant, d.below(3)), h.word) {
				w.isDone(x.q, badHandle, load(w.p.State(h.n)))
			}
		}
	}
	r, _, over := prog.Run(New(w.seat(ourTenant, 0)), w.m, w.c, 999)
	is(w, over, true)
	is(w, r.E == api.OK || r == quota, true)
}
