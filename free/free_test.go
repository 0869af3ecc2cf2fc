package free

import (
	"math"
	"slices"
	"testing"

	"cubicle/api"
	"cubicle/mem"
	"cubicle/plan"
	"cubicle/prog"
)

const (
	ones    = math.MaxUint64
	mostTag = 1<<43 - 1
)

// mine is the region that a test's programs work in; the memory has another one of
// the same plan, ahead of it, which none of them may touch.
const mine = 1

// of is the least plan of so many nodes: their NEXTs are at 10, 15, 20 and so on.
func of(nodes int) plan.Plan {
	return plan.Plan{Nodes: nodes, Threads: 1, Retire: 4, Buckets: 1, Gen: 9}
}

// several are plans of several numbers of nodes, with other things ahead of them.
func several() []plan.Plan {
	return []plan.Plan{
		of(1), of(2), of(3), of(7), of(64), of(1000),
		{Nodes: 1, Threads: 2, Retire: 9, Domains: 3, Buckets: 5, Gen: 1},
		{Nodes: 2, Threads: 16, Retire: 49, Domains: 1, Buckets: 1, Gen: 2},
		{Nodes: 5, Threads: 3, Retire: 10, Domains: 2, Buckets: 2, Gen: 3},
		{Nodes: 41, Threads: 1, Retire: 1024, Domains: 64, Buckets: 7, Gen: api.MaxGen},
	}
}

// notFormed are plans that aren't, each by one number at least.
func notFormed() []plan.Plan {
	l := []plan.Plan{
		{}, {Nodes: -1, Threads: -1, Retire: -1, Domains: -1, Buckets: -1, Gen: -1},
		{Nodes: 3, Threads: 1, Retire: 3, Buckets: 1, Gen: 9},
		{Nodes: 3, Threads: 0, Retire: 4, Buckets: 1, Gen: 9},
		{Nodes: 3, Threads: 1, Retire: 4, Buckets: 0, Gen: 9},
		{Nodes: 3, Threads: 1, Retire: 4, Buckets: 1, Gen: 0},
		{Nodes: 3, Threads: 1, Retire: 4, Domains: 65, Buckets: 1, Gen: 9},
	}
	for _, n := range []int{math.MinInt, math.MinInt + 1, -2, -1, 0, api.MaxNodes + 1, 1 << 32, math.MaxInt - 1, math.MaxInt} {
		l = append(l, of(n))
	}
	return l
}

// noRegions are regions that a memory of two regions hasn't.
func noRegions() []int {
	return []int{-1, 2, 3, math.MinInt, math.MaxInt, 1 << 32, 1<<32 + 1}
}

// noNodes are nodes that the plan hasn't.
func noNodes(p plan.Plan) []int {
	return []int{-1, -2, p.Nodes, p.Nodes + 1, 1<<20 + p.Nodes, 1 << 21, 1<<32 + p.Nodes, 1 << 32,
		math.MinInt, math.MinInt + 1, math.MaxInt - 1, math.MaxInt}
}

// world is a memory, with another word, not 0, at each place of both regions.
type world struct {
	t *testing.T
	p plan.Plan
	m *mem.Memory
	c mem.Cap
}

func newWorld(t *testing.T, p plan.Plan) *world {
	t.Helper()
	m, e := mem.New([]int{p.Size(), p.Size()})
	if e != api.OK {
		t.Fatal(p, e)
	}
	w := &world{t, p, m, m.Cap(mine)}
	for at := range p.Size() {
		w.put(at, 1<<40+uint64(at))
		m.Do(m.Cap(0), mem.Access{Op: mem.Store, At: at, A: 1<<41 + uint64(at)})
	}
	return w
}

// freshWorld is a world behind a Fresh.
func freshWorld(t *testing.T, p plan.Plan) *world {
	t.Helper()
	w := newWorld(t, p)
	if _, n, over := prog.Run(Fresh(p), w.m, w.c, math.MaxInt); n != p.Nodes+1 || !over {
		t.Fatalf("%+v: Fresh: %d steps, over %v", p, n, over)
	}
	return w
}

// chained is a world whose list has these nodes, in order, and whose head has that tag.
func chained(t *testing.T, p plan.Plan, tag uint64, nodes ...int) *world {
	t.Helper()
	w := newWorld(t, p)
	next := 0
	for _, n := range slices.Backward(nodes) {
		w.put(p.Next(n), uint64(next))
		next = n + 1
	}
	w.put(p.Head(), uint64(next)|tag<<21)
	return w
}

// put stores the word at that place.
func (w *world) put(at int, word uint64) {
	w.t.Helper()
	if _, ok := w.m.Do(w.c, mem.Access{Op: mem.Store, At: at, A: word}); !ok {
		w.t.Fatalf("there is no place %d", at)
	}
}

// words are all words of both regions.
func (w *world) words() []uint64 {
	var l []uint64
	for r := range w.m.Regions() {
		for at := range w.m.Size(r) {
			l = append(l, w.m.Peek(r, at))
		}
	}
	return l
}

// place is where the word at that place of the own region stands among all words.
func (w *world) place(at int) int { return w.m.Size(0) + at }

// headIs asks whether the head names that node (None: none), with that tag.
func (w *world) headIs(n int, tag uint64) {
	w.t.Helper()
	if got, want := w.m.Peek(mine, 0), uint64(n+1)|tag<<21; got != want {
		w.t.Errorf("%+v: the head is %#x; want %#x: the node %d, the tag %d", w.p, got, want, n, tag)
	}
}

// listIs asks whether List tells these nodes, without an access.
func (w *world) listIs(want ...int) {
	w.t.Helper()
	words, count := w.words(), w.m.Count()
	if got := List(w.p, w.m, mine); !slices.Equal(got, want) {
		w.t.Errorf("%+v: List is %v; want %v", w.p, got, want)
	}
	if w.m.Count() != count || !slices.Equal(w.words(), words) {
		w.t.Error("List did an access")
	}
}

// pops runs a Pop, alone, and asks what it comes to, in so many steps as it must be.
func (w *world) pops(want int) {
	w.t.Helper()
	steps := 3
	if want == api.None {
		steps = 1
	}
	if n, k, over := prog.Run(Pop(w.p), w.m, w.c, 99); n != want || k != steps || !over {
		w.t.Errorf("%+v: Pop: %d, %d steps, over %v; want %d, %d", w.p, n, k, over, want, steps)
	}
}

// pushes runs Pushes of the nodes, alone, and asks what each comes to.
func (w *world) pushes(nodes ...int) {
	w.t.Helper()
	for _, node := range nodes {
		if n, k, over := prog.Run(Push(w.p, node), w.m, w.c, 99); n != node || k != 3 || !over {
			w.t.Errorf("%+v: Push of %d: %d, %d steps, over %v", w.p, node, n, k, over)
		}
	}
}

func load(at int) mem.Access            { return mem.Access{Op: mem.Load, At: at} }
func store(at int, w uint64) mem.Access { return mem.Access{Op: mem.Store, At: at, A: w} }
func trySwap(at int, was, w uint64) mem.Access {
	return mem.Access{Op: mem.Swap, At: at, A: was, B: w}
}

// accesses asks whether the program's next accesses are these, does them, and is the
// program that goes on.
func accesses[R any](w *world, q prog.Prog[R], want ...mem.Access) prog.Prog[R] {
	w.t.Helper()
	for i, a := range want {
		if got, ok := q.Access(); got != a || !ok {
			w.t.Fatalf("%+v: the access %d is %+v, %v; want %+v", w.p, i, got, ok, a)
		}
		if r, over := q.Over(); over {
			w.t.Fatalf("%+v: over, with %v, ahead of the access %d", w.p, r, i)
		}
		count := w.m.Count()
		next, ok := q.Step(w.m, w.c)
		if !ok || w.m.Count() != count+1 {
			w.t.Fatalf("%+v: the step %d: %v, %d accesses", w.p, i, ok, w.m.Count()-count)
		}
		q = next
	}
	return q
}

// comesTo asks whether the program is over, with that.
func comesTo[R comparable](w *world, q prog.Prog[R], want R) {
	w.t.Helper()
	if r, over := q.Over(); r != want || !over {
		w.t.Errorf("%+v: it comes to %v, over %v; want %v", w.p, r, over, want)
	}
	if a, ok := q.Access(); ok {
		w.t.Errorf("%+v: it is over, and has the access %+v", w.p, a)
	}
}

// stepped is the program behind so many steps.
func stepped[R any](w *world, q prog.Prog[R], steps int) prog.Prog[R] {
	w.t.Helper()
	for i := range steps {
		next, ok := q.Step(w.m, w.c)
		if !ok {
			w.t.Fatalf("%+v: the step %d is refused", w.p, i)
		}
		q = next
	}
	return q
}

// all are the plan's nodes, in order.
func all(p plan.Plan) []int {
	var l []int
	for n := range p.Nodes {
		l = append(l, n)
	}
	return l
}

// drawn is a fixed row of numbers that look as if they were drawn.
type drawn uint64

func (d *drawn) below(n int) int {
	*d = *d*6364136223846793005 + 1442695040888963407
	return int(uint64(*d) >> 33 % uint64(n))
}

func (d *drawn) word() uint64 {
	return uint64(d.below(1<<31))<<33 ^ uint64(d.below(1<<31))<<10 ^ uint64(d.below(1<<31))
}

// P9.1.

// TestFreshByHand is a plan of three nodes, whose accesses are told by numbers.
func TestFreshByHand(t *testing.T) {
	w := newWorld(t, of(3))
	q := accesses(w, Fresh(w.p), store(10, 2), store(15, 3), store(20, 0), store(0, 1))
	comesTo(w, q, prog.None{})
	w.listIs(0, 1, 2)
}

func TestFreshOfOneNode(t *testing.T) {
	w := newWorld(t, of(1))
	q := accesses(w, Fresh(w.p), store(10, 0), store(0, 1))
	comesTo(w, q, prog.None{})
	w.listIs(0)
}

// freshAccesses are what Fresh must do.
func freshAccesses(p plan.Plan) []mem.Access {
	var l []mem.Access
	for n := range p.Nodes {
		l = append(l, store(p.Next(n), uint64(n+2)))
	}
	l[len(l)-1].A = 0
	return append(l, store(p.Head(), 1))
}

// TestFresh: each access, in order, and each word of the memory behind it.
func TestFresh(t *testing.T) {
	for _, p := range several() {
		w := newWorld(t, p)
		want := w.words()
		for _, a := range freshAccesses(p) {
			want[w.place(a.At)] = a.A
		}
		q := accesses(w, Fresh(p), freshAccesses(p)...)
		comesTo(w, q, prog.None{})
		if !slices.Equal(w.words(), want) {
			t.Errorf("%+v: the words are %v; want %v", p, w.words(), want)
		}
		w.headIs(0, 0)
		w.listIs(all(p)...)
	}
}

// TestFreshIsOverBehindItsLastStep: and not ahead of it.
func TestFreshIsOverBehindItsLastStep(t *testing.T) {
	for _, p := range several() {
		w := newWorld(t, p)
		for _, most := range []int{0, 1, p.Nodes - 1, p.Nodes, p.Nodes + 1, p.Nodes + 2, math.MaxInt} {
			_, n, over := prog.Run(Fresh(p), w.m, w.c, most)
			if n != min(most, p.Nodes+1) || over != (most > p.Nodes) {
				t.Errorf("%+v: Fresh, %d steps at most: %d, over %v", p, most, n, over)
			}
		}
	}
}

// TestFreshAgain: whatever was popped, and whatever the tag is, all nodes are in the
// list, with the tag 0.
func TestFreshAgain(t *testing.T) {
	w := freshWorld(t, of(4))
	for n := range 3 {
		w.pops(n)
	}
	w.pushes(1, 0)
	w.headIs(0, 5)
	prog.Run(Fresh(w.p), w.m, w.c, 99)
	w.headIs(0, 0)
	w.listIs(0, 1, 2, 3)
}

// TestGreatest: the last node's number, and one more, have room in the head.
func TestGreatest(t *testing.T) {
	p := of(api.MaxNodes)
	m, e := mem.New([]int{p.Size()})
	if e != api.OK {
		t.Fatal(e)
	}
	w := &world{t, p, m, m.Cap(0)}
	if _, n, over := prog.Run(Fresh(p), m, w.c, math.MaxInt); n != 1048577 || !over {
		t.Fatal(n, over)
	}
	if l := List(p, m, 0); !slices.Equal(l, all(p)) {
		t.Error(len(l))
	}
	w.put(0, mostTag<<21)
	w.pushes(1048575)
	if got := m.Peek(0, 0); got != 1048576 {
		t.Errorf("%#x", got)
	}
	w.pushes(1048574, 0)
	if l := List(p, m, 0); !slices.Equal(l, []int{0, 1048574, 1048575}) {
		t.Error(l)
	}
	w.pops(0)
	w.pops(1048574)
	w.pops(1048575)
	w.pops(api.None)
	if got := m.Peek(0, 0); got != 5<<21 {
		t.Errorf("%#x", got)
	}
}

// P9.2: alone.

func TestExample(t *testing.T) {
	w := freshWorld(t, of(3))
	w.pops(0)
	w.pushes(0)
	w.pops(0)
}

// TestAloneByHand: each access of Pops and Pushes, with the head's word behind it.
func TestAloneByHand(t *testing.T) {
	w := freshWorld(t, of(3))
	q := accesses(w, Pop(w.p), load(0), load(10), trySwap(0, 1, 2|1<<21))
	comesTo(w, q, 0)
	w.headIs(1, 1)
	w.listIs(1, 2)
	q = accesses(w, Pop(w.p), load(0), load(15), trySwap(0, 2|1<<21, 3|2<<21))
	comesTo(w, q, 1)
	w.headIs(2, 2)
	w.listIs(2)
	q = accesses(w, Push(w.p, 0), load(0), store(10, 3), trySwap(0, 3|2<<21, 1|3<<21))
	comesTo(w, q, 0)
	w.headIs(0, 3)
	w.listIs(0, 2)
	q = accesses(w, Push(w.p, 1), load(0), store(15, 1), trySwap(0, 1|3<<21, 2|4<<21))
	comesTo(w, q, 1)
	w.headIs(1, 4)
	w.listIs(1, 0, 2)
	for i, n := range []int{1, 0, 2} {
		w.pops(n)
		w.listIs([]int{1, 0, 2}[i+1:]...)
	}
	w.headIs(api.None, 7)
	q = accesses(w, Pop(w.p), load(0))
	comesTo(w, q, api.None)
	w.headIs(api.None, 7)
	q = accesses(w, Push(w.p, 2), load(0), store(20, 0), trySwap(0, 7<<21, 3|8<<21))
	comesTo(w, q, 2)
	w.headIs(2, 8)
	w.listIs(2)
}

// TestPopAll: the nodes come in the list's order, and then there are none, as often
// as is asked; no word but the head is changed.
func TestPopAll(t *testing.T) {
	for _, p := range several() {
		w := freshWorld(t, p)
		want := w.words()
		for n := range p.Nodes {
			w.pops(n)
			if n < p.Nodes-1 {
				w.headIs(n+1, uint64(n+1))
			}
		}
		for range 3 {
			w.pops(api.None)
		}
		w.headIs(api.None, uint64(p.Nodes))
		w.listIs()
		want[w.place(0)] = uint64(p.Nodes) << 21
		if !slices.Equal(w.words(), want) {
			t.Errorf("%+v: the words are %v; want %v", p, w.words(), want)
		}
	}
}

// TestPushAll: the node that was pushed last comes first; no word but the head and
// the nodes' NEXTs is changed.
func TestPushAll(t *testing.T) {
	for _, p := range several() {
		w := chained(t, p, 0)
		want := w.words()
		w.pushes(all(p)...)
		for n := range p.Nodes {
			want[w.place(p.Next(n))] = uint64(n)
		}
		want[w.place(0)] = uint64(p.Nodes) | uint64(p.Nodes)<<21
		if !slices.Equal(w.words(), want) {
			t.Errorf("%+v: the words are %v; want %v", p, w.words(), want)
		}
		back := all(p)
		slices.Reverse(back)
		w.listIs(back...)
		for _, n := range back {
			w.pops(n)
		}
		w.headIs(api.None, uint64(2*p.Nodes))
	}
}

// TestRowBesideAStack: a long fixed row of Pops and Pushes answers as a stack does.
func TestRowBesideAStack(t *testing.T) {
	for _, p := range several()[:5] {
		w, d := freshWorld(t, p), drawn(p.Nodes)
		stack, had, tag := all(p), []int{}, uint64(0)
		for range 400 {
			switch {
			case d.below(2) == 0 && len(had) > 0:
				i := d.below(len(had))
				w.pushes(had[i])
				stack, had = slices.Insert(stack, 0, had[i]), slices.Delete(had, i, i+1)
				tag++
			case len(stack) == 0:
				w.pops(api.None)
			default:
				w.pops(stack[0])
				stack, had = stack[1:], append(had, stack[0])
				tag++
			}
			first := api.None
			if len(stack) > 0 {
				first = stack[0]
			}
			w.headIs(first, tag)
			w.listIs(stack...)
		}
	}
}

// TestPopWithoutANode: one load, whatever the tag is, and no word is changed.
func TestPopWithoutANode(t *testing.T) {
	for _, p := range several() {
		for _, tag := range []uint64{0, 1, 2, 1 << 42, mostTag - 1, mostTag} {
			w := chained(t, p, tag)
			words := w.words()
			q := accesses(w, Pop(p), load(0))
			comesTo(w, q, api.None)
			if !slices.Equal(w.words(), words) {
				t.Errorf("%+v, tag %d: a word is changed", p, tag)
			}
		}
	}
}

// TestPushIntoAListWithoutANode: the NEXT becomes 0, whatever it was.
func TestPushIntoAListWithoutANode(t *testing.T) {
	for _, p := range several() {
		for _, n := range []int{0, p.Nodes / 2, p.Nodes - 1} {
			for _, was := range []uint64{0, 1, uint64(p.Nodes), ones} {
				w := chained(t, p, 5)
				w.put(p.Next(n), was)
				q := accesses(w, Push(p, n), load(0), store(p.Next(n), 0), trySwap(0, 5<<21, uint64(n+1)|6<<21))
				comesTo(w, q, n)
				w.headIs(n, 6)
				w.listIs(n)
				w.pops(n)
				w.headIs(api.None, 7)
			}
		}
	}
}

// TestTags: the next one is one greater, and 0 behind the greatest; it doesn't spill
// into the node, nor the node into it.
func TestTags(t *testing.T) {
	p := of(3)
	rows := []struct{ tag, next uint64 }{
		{0, 1}, {1, 2}, {1<<21 - 1, 1 << 21}, {1<<22 - 1, 1 << 22}, {1<<32 - 1, 1 << 32}, {1<<42 - 1, 1 << 42},
		{1 << 42, 1<<42 + 1}, {mostTag - 1, mostTag}, {mostTag, 0},
	}
	for _, x := range rows {
		w := chained(t, p, x.tag, 2, 0)
		w.pops(2)
		w.headIs(0, x.next)
		w.listIs(0)
		w = chained(t, p, x.tag, 2)
		w.pops(2)
		w.headIs(api.None, x.next)
		w = chained(t, p, x.tag, 2, 0)
		w.pushes(1)
		w.headIs(1, x.next)
		w.listIs(1, 2, 0)
		w = chained(t, p, x.tag)
		w.pushes(1)
		w.headIs(1, x.next)
		w.listIs(1)
	}
}

// TestTagComesRound: a Pop and a Push at the greatest tag, one behind the other.
func TestTagComesRound(t *testing.T) {
	w := chained(t, of(3), mostTag, 0, 1, 2)
	q := accesses(w, Pop(w.p), load(0), load(10), trySwap(0, 1|mostTag<<21, 2))
	comesTo(w, q, 0)
	w.headIs(1, 0)
	w.pushes(0)
	w.headIs(0, 1)
	w = chained(t, of(3), mostTag, 1, 2)
	q = accesses(w, Push(w.p, 0), load(0), store(10, 2), trySwap(0, 2|mostTag<<21, 1))
	comesTo(w, q, 0)
	w.headIs(0, 0)
	w.listIs(0, 1, 2)
}

// P9.2: what begins anew.

const nodeBits = 1<<21 - 1

// popRest are a Pop's accesses behind its load of the head, which told that, as the
// memory stands.
func (w *world) popRest(head uint64) []mem.Access {
	at := w.p.Next(int(head&nodeBits) - 1)
	return []mem.Access{load(at), trySwap(0, head, w.m.Peek(mine, at)|(head>>21+1)<<21)}
}

// pushRest are a Push's.
func (w *world) pushRest(head uint64, n int) []mem.Access {
	return []mem.Access{store(w.p.Next(n), head&nodeBits), trySwap(0, head, uint64(n+1)|(head>>21+1)<<21)}
}

// popsAnew asks whether a Pop does a whole turn, from its load of the head on, as the
// memory stands, and comes to that node, or to None.
func (w *world) popsAnew(q prog.Prog[int], want int) {
	w.t.Helper()
	head := w.m.Peek(mine, 0)
	q = accesses(w, q, load(0))
	if want != api.None {
		q = accesses(w, q, w.popRest(head)...)
	}
	comesTo(w, q, want)
}

// pushesAnew is the same, of a Push of n.
func (w *world) pushesAnew(q prog.Prog[int], n int) {
	w.t.Helper()
	head := w.m.Peek(mine, 0)
	q = accesses(w, q, load(0))
	q = accesses(w, q, w.pushRest(head, n)...)
	comesTo(w, q, n)
}

// meddling is what others do while one stands still.
type meddling struct {
	name string
	do   func(w *world)
	pop  int   // what a Pop comes to then
	list []int // what is in the list then, ahead of that Pop
}

// meddlings are of lists 0, 1, 2, of a plan whose node 3 is had by others, 4 by who
// stands still.
func meddlings() []meddling {
	return []meddling{
		{"a Pop", func(w *world) { w.pops(0) }, 1, []int{1, 2}},
		{"two Pops", func(w *world) { w.pops(0); w.pops(1) }, 2, []int{2}},
		{"Pops of all", func(w *world) { w.pops(0); w.pops(1); w.pops(2) }, api.None, nil},
		{"a Push", func(w *world) { w.pushes(3) }, 3, []int{3, 0, 1, 2}},
		{"a Push and a Pop", func(w *world) { w.pushes(3); w.pops(3) }, 0, []int{0, 1, 2}},
		{"a Pop, and a Push of it", func(w *world) { w.pops(0); w.pushes(0) }, 0, []int{0, 1, 2}},
		{"two Pops, and a Push of the first", func(w *world) { w.pops(0); w.pops(1); w.pushes(0) }, 0, []int{0, 2}},
		{"two Pops, and Pushes in another order", func(w *world) { w.pops(0); w.pops(1); w.pushes(0, 1) }, 1, []int{1, 0, 2}},
		{"all Pops, and a Push of the first", func(w *world) { w.pops(0); w.pops(1); w.pops(2); w.pushes(0) }, 0, []int{0}},
		{"a Pop, and Pushes of another and of it", func(w *world) { w.pops(0); w.pushes(3, 0) }, 0, []int{0, 3, 1, 2}},
	}
}

// tags are those at which others meddle: so, too, that the tag comes round meanwhile.
func tags() []uint64 { return []uint64{0, 1, 77, mostTag - 2, mostTag - 1, mostTag} }

// TestPopBegunAnew: at each of its steps others change the head: it loads what it
// would have, its swap isn't done, and it begins anew.
func TestPopBegunAnew(t *testing.T) {
	for _, x := range meddlings() {
		for _, tag := range tags() {
			w := chained(t, of(5), tag, 0, 1, 2)
			x.do(w)
			w.listIs(x.list...)
			w.popsAnew(Pop(w.p), x.pop)
			for stop := 1; stop <= 2; stop++ {
				w := chained(t, of(5), tag, 0, 1, 2)
				head := w.m.Peek(mine, 0)
				rest := w.popRest(head)
				q := accesses(w, Pop(w.p), load(0))
				if stop == 2 {
					q = accesses(w, q, rest[0])
				}
				x.do(w)
				if stop == 1 {
					rest = w.popRest(head)
				}
				words := w.words()
				q = accesses(w, q, rest[stop-1:]...)
				if !slices.Equal(w.words(), words) {
					t.Errorf("%s: a swap is done, of a head that isn't any more", x.name)
				}
				w.popsAnew(q, x.pop)
				if x.pop != api.None {
					w.listIs(x.list[1:]...)
				}
			}
		}
	}
}

// TestPushBegunAnew: at each of its steps others change the head: the NEXT that it
// stored is stored anew.
func TestPushBegunAnew(t *testing.T) {
	for _, x := range meddlings() {
		for _, tag := range tags() {
			want := append([]int{4}, x.list...)
			w := chained(t, of(5), tag, 0, 1, 2)
			x.do(w)
			w.pushesAnew(Push(w.p, 4), 4)
			w.listIs(want...)
			for stop := 1; stop <= 2; stop++ {
				w := chained(t, of(5), tag, 0, 1, 2)
				rest := w.pushRest(w.m.Peek(mine, 0), 4)
				q := accesses(w, Push(w.p, 4), load(0))
				if stop == 2 {
					q = accesses(w, q, rest[0])
				}
				x.do(w)
				q = accesses(w, q, rest[stop-1:]...)
				w.listIs(x.list...)
				w.pushesAnew(q, 4)
				w.listIs(want...)
			}
		}
	}
}

// TestPushBegunAnewFromNoNode: of a list that had no node when it was loaded.
func TestPushBegunAnewFromNoNode(t *testing.T) {
	for stop := 1; stop <= 2; stop++ {
		w := chained(t, of(3), 8)
		q := stepped(w, Push(w.p, 2), stop)
		w.pushes(1)
		q = stepped(w, q, 3-stop)
		w.pushesAnew(q, 2)
		w.listIs(2, 1)
		w = chained(t, of(3), 8)
		q = stepped(w, Push(w.p, 2), stop)
		w.pushes(1)
		w.pops(1)
		q = stepped(w, q, 3-stop)
		w.pushesAnew(q, 2)
		w.headIs(2, 11)
		w.listIs(2)
	}
}

// TestPopBegunAnewManyTimes: others meddle at each turn, behind one step or two.
func TestPopBegunAnewManyTimes(t *testing.T) {
	for _, times := range []int{1, 2, 3, 7, 500} {
		for stop := 1; stop <= 2; stop++ {
			w := chained(t, of(4), mostTag-5, 0, 1, 2)
			q := Pop(w.p)
			for i := range times {
				q = stepped(w, q, stop)
				turn(w, i)
				q = stepped(w, q, 3-stop)
				if r, over := q.Over(); over {
					t.Fatalf("over, with %d, behind %d turns", r, i+1)
				}
			}
			w.popsAnew(q, List(w.p, w.m, mine)[0])
		}
	}
}

// turn changes the head, by its tag alone, or by another first node.
func turn(w *world, i int) {
	w.t.Helper()
	first := List(w.p, w.m, mine)[0]
	switch i % 4 {
	case 0:
		w.pops(first)
		w.pushes(first)
	case 1:
		w.pushes(3)
	case 2:
		w.pops(3)
	case 3:
		second := List(w.p, w.m, mine)[1]
		w.pops(first)
		w.pops(second)
		w.pushes(first, second)
	}
}

func TestPushBegunAnewManyTimes(t *testing.T) {
	for _, times := range []int{1, 2, 3, 7, 500} {
		for stop := 1; stop <= 2; stop++ {
			w := chained(t, of(5), mostTag-5, 0, 1, 2)
			q := Push(w.p, 4)
			for i := range times {
				q = stepped(w, q, stop)
				turn(w, i)
				q = stepped(w, q, 3-stop)
				if r, over := q.Over(); over {
					t.Fatalf("over, with %d, behind %d turns", r, i+1)
				}
			}
			want := append([]int{4}, List(w.p, w.m, mine)...)
			w.pushesAnew(q, 4)
			w.listIs(want...)
		}
	}
}

// TestPopBegunAnewEndsWithNone: the list loses its last node meanwhile.
func TestPopBegunAnewEndsWithNone(t *testing.T) {
	for stop := 1; stop <= 2; stop++ {
		w := freshWorld(t, of(1))
		q := stepped(w, Pop(w.p), stop)
		w.pops(0)
		q = stepped(w, q, 3-stop)
		w.popsAnew(q, api.None)
		w.headIs(api.None, 1)
	}
}

// TestTheSameNodeWithAnotherTag: a head that names the same node, with the same NEXT,
// is another one.
func TestTheSameNodeWithAnotherTag(t *testing.T) {
	for _, tag := range []uint64{0, 1, 5, 7, 6 + 1<<42, mostTag} {
		w := chained(t, of(3), 6, 0, 1)
		q := stepped(w, Pop(w.p), 2)
		w.put(0, 1|tag<<21)
		q = stepped(w, q, 1)
		w.headIs(0, tag)
		w.popsAnew(q, 0)
		w = chained(t, of(3), 6, 0, 1)
		q = stepped(w, Push(w.p, 2), 2)
		w.put(0, 1|tag<<21)
		q = stepped(w, q, 1)
		w.headIs(0, tag)
		w.pushesAnew(q, 2)
		w.listIs(2, 0, 1)
	}
}

// TestAnotherNodeWithTheSameTag: such a head is another one, too.
func TestAnotherNodeWithTheSameTag(t *testing.T) {
	w := chained(t, of(3), 6, 0, 1)
	q := stepped(w, Pop(w.p), 2)
	w.put(0, 2|6<<21)
	w.popsAnew(stepped(w, q, 1), 1)
	w = chained(t, of(3), 6, 0, 1)
	q = stepped(w, Push(w.p, 2), 2)
	w.put(0, 2|6<<21)
	w.pushesAnew(stepped(w, q, 1), 2)
	w.listIs(2, 1)
}

// TestTheSameHeadAgain: a head that is as it had been loaded is swapped, whatever it
// was meanwhile.
func TestTheSameHeadAgain(t *testing.T) {
	w := chained(t, of(3), 6, 0, 1)
	q := stepped(w, Pop(w.p), 2)
	w.put(0, 3|9<<21)
	w.put(0, 1|6<<21)
	comesTo(w, accesses(w, q, trySwap(0, 1|6<<21, 2|7<<21)), 0)
	w.headIs(1, 7)
}

// P9.2: nodes that the plan hasn't.

func TestPushOfNoNode(t *testing.T) {
	for _, p := range several() {
		w := freshWorld(t, p)
		words, count := w.words(), w.m.Count()
		for _, n := range noNodes(p) {
			q := Push(p, n)
			comesTo(w, q, api.None)
			if r, k, over := prog.Run(q, w.m, w.c, 99); r != api.None || k != 0 || !over {
				t.Errorf("%+v: Push of %d: %d, %d steps, over %v", p, n, r, k, over)
			}
			if next, ok := q.Step(w.m, w.c); ok {
				t.Errorf("%+v: Push of %d has a step", p, n)
			} else {
				comesTo(w, next, api.None)
			}
		}
		if w.m.Count() != count || !slices.Equal(w.words(), words) {
			t.Errorf("%+v: an access is done", p)
		}
	}
}

// P9.3.

func TestListAsItStands(t *testing.T) {
	p := of(6)
	for _, nodes := range [][]int{nil, {0}, {5}, {3, 1}, {5, 4, 3, 2, 1, 0}, {0, 1, 2, 3, 4, 5}, {2, 5, 0}} {
		for _, tag := range tags() {
			chained(t, p, tag, nodes...).listIs(nodes...)
		}
	}
}

// TestListThatLeadsBack: it tells as many nodes as the plan has.
func TestListThatLeadsBack(t *testing.T) {
	w := chained(t, of(1), 3, 0)
	w.put(w.p.Next(0), 1)
	w.listIs(0)
	w = chained(t, of(4), 3, 2, 0, 3)
	w.put(w.p.Next(3), 4)
	w.listIs(2, 0, 3, 3)
	w.put(w.p.Next(3), 1)
	w.listIs(2, 0, 3, 0)
	w.put(w.p.Next(3), 3)
	w.listIs(2, 0, 3, 2)
	w.put(w.p.Next(0), 3)
	w.listIs(2, 0, 2, 0)
	w.put(w.p.Next(2), 3)
	w.listIs(2, 2, 2, 2)
	w = chained(t, of(4), 3, 2, 0, 3, 1)
	w.put(w.p.Next(1), 3)
	w.listIs(2, 0, 3, 1)
}

// noNames are words that name none of so many nodes.
func noNames(nodes int) []uint64 {
	n := uint64(nodes)
	l := []uint64{0, n + 1, n + 2, nodeBits, 1 << 21, 1 << 32, 1 << 62, 1 << 63, ones, ones - 1, ones - n, 1<<63 - 1}
	for at := 21; at < 64; at++ {
		l = append(l, 1<<at|1, 1<<at|n)
	}
	return l
}

// TestListUpToANextThatNamesNone: all of a NEXT's word is its node, whatever bits
// stand above those that a head's node has.
func TestListUpToANextThatNamesNone(t *testing.T) {
	for _, p := range []plan.Plan{of(4), of(1000)} {
		for _, word := range noNames(p.Nodes) {
			w := chained(t, p, 3, 2, 0, 3, 1)
			w.put(p.Next(1), word)
			w.listIs(2, 0, 3, 1)
			w.put(p.Next(0), word)
			w.listIs(2, 0)
			w.put(p.Next(2), word)
			w.listIs(2)
		}
	}
}

// TestListOfAHeadThatNamesNone: only the bits of its node count there.
func TestListOfAHeadThatNamesNone(t *testing.T) {
	for _, p := range several() {
		w := freshWorld(t, p)
		for _, node := range []uint64{0, uint64(p.Nodes + 1), uint64(p.Nodes + 2), 1 << 20, nodeBits - 1, nodeBits} {
			for _, tag := range tags() {
				w.put(0, node|tag<<21)
				w.listIs()
			}
		}
		w.put(0, 1|mostTag<<21)
		w.listIs(all(p)...)
	}
}

// TestListOfEachRegion: it is that of the region that is told.
func TestListOfEachRegion(t *testing.T) {
	p := of(3)
	w := chained(t, p, 3, 2, 0)
	if l := List(p, w.m, 0); len(l) != 0 {
		t.Error("a region of whatever words:", l)
	}
	prog.Run(Fresh(p), w.m, w.m.Cap(0), 99)
	if l := List(p, w.m, 0); !slices.Equal(l, []int{0, 1, 2}) {
		t.Error(l)
	}
	w.listIs(2, 0)
}

// TestListIsNewMemory: what is answered may be changed, and grown, by who got it (R5).
func TestListIsNewMemory(t *testing.T) {
	w := freshWorld(t, of(5))
	a, b := List(w.p, w.m, mine), List(w.p, w.m, mine)
	for i := range a {
		a[i] = -7
	}
	_ = append(a[:0], 91, 92, 93, 94, 95, 96)
	if !slices.Equal(b, all(w.p)) {
		t.Error(b)
	}
	w.listIs(0, 1, 2, 3, 4)
	w.pops(0)
	if !slices.Equal(b, all(w.p)) {
		t.Error(b)
	}
}
