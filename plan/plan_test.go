package plan

import (
	"math"
	"slices"
	"testing"

	"cubicle/api"
)

// least and greatest are the least plan and the greatest one that are formed.
var (
	least    = Plan{Nodes: 1, Threads: 1, Retire: 4, Domains: 0, Buckets: 1, Gen: 1}
	greatest = Plan{Nodes: 1048576, Threads: 16, Retire: 1024, Domains: 64, Buckets: 256, Gen: 1073741823}
)

// small are plans of several kinds, whose words are gone through one by one.
func small() []Plan {
	l := []Plan{
		least,
		{Nodes: 2, Threads: 1, Retire: 4, Domains: 0, Buckets: 9, Gen: 9},
		{Nodes: 1, Threads: 2, Retire: 7, Domains: 2, Buckets: 3, Gen: 1},
		{Nodes: 3, Threads: 1, Retire: 5, Domains: 1, Buckets: 1, Gen: 2},
		{Nodes: 3, Threads: 1, Retire: 5, Domains: 1, Buckets: 2, Gen: 2},
		{Nodes: 3, Threads: 1, Retire: 5, Domains: 4, Buckets: 7, Gen: 2},
		{Nodes: 100, Threads: 5, Retire: 40, Domains: 6, Buckets: 5, Gen: 1000},
		{Nodes: 7, Threads: 16, Retire: 49, Domains: 0, Buckets: 1, Gen: 1},
		{Nodes: 7, Threads: 16, Retire: 1024, Domains: 64, Buckets: 256, Gen: api.MaxGen},
		{Nodes: 4096, Threads: 3, Retire: 10, Domains: 1, Buckets: 1, Gen: 3},
	}
	for threads := 1; threads <= 4; threads++ {
		for domains := range 3 {
			for buckets := 1; buckets <= 4; buckets++ {
				l = append(l, Plan{
					Nodes: threads + domains, Threads: threads, Retire: 3*threads + buckets,
					Domains: domains, Buckets: buckets, Gen: 1,
				})
			}
		}
	}
	return l
}

// several are plans of all kinds that are formed: also those that have one number at
// its least, or at its greatest.
func several() []Plan {
	l := append(small(), mid, greatest)
	for _, x := range numbers() {
		l = append(l, x.with(mid, x.least), x.with(mid, x.most))
	}
	return l
}

// number is one of a plan's numbers, with its least and its greatest where all the
// others are those of mid.
type number struct {
	name        string
	of          func(p *Plan) *int
	least, most int
}

var mid = Plan{Nodes: 5, Threads: 4, Retire: 60, Domains: 3, Buckets: 4, Gen: 6}

func numbers() []number {
	return []number{
		{"Nodes", func(p *Plan) *int { return &p.Nodes }, 1, 1048576},
		{"Threads", func(p *Plan) *int { return &p.Threads }, 1, 16},
		{"Retire", func(p *Plan) *int { return &p.Retire }, 13, 1024},
		{"Domains", func(p *Plan) *int { return &p.Domains }, 0, 64},
		{"Buckets", func(p *Plan) *int { return &p.Buckets }, 1, 256},
		{"Gen", func(p *Plan) *int { return &p.Gen }, 1, 1073741823},
	}
}

// with is the plan with that number in the place of its own one.
func (x number) with(p Plan, n int) Plan {
	*x.of(&p) = n
	return p
}

// far are numbers that lie beyond all bounds; some of them wrap round to a small
// one, or to 0, if they are multiplied by a count of words.
func far() []int {
	return []int{
		math.MinInt, math.MinInt + 1, math.MinInt32, -1 << 32, -1000, -2,
		1 << 31, 1 << 32, 1<<32 + 1, 1 << 62, math.MaxInt - 1, math.MaxInt,
		math.MaxInt/2 + 1, math.MinInt / 2, math.MaxInt / 3, math.MaxInt/5 + 1, math.MinInt / 5,
	}
}

// beyond are numbers that none of so many things has.
func beyond(many int) []int {
	return append(far(), -1, many, many+1)
}

// at asks whether a place is that.
func at(t *testing.T, p Plan, what string, got, want int) {
	t.Helper()
	if got != want {
		t.Errorf("%+v: %s is %d; want %d", p, what, got, want)
	}
}

// formed asks whether the plan is formed, and whether it has places then.
func formed(t *testing.T, p Plan) {
	t.Helper()
	if !p.Formed() {
		t.Errorf("%+v isn't formed", p)
	}
	at(t, p, "Head", p.Head(), 0)
	at(t, p, "the last word", p.Field(p.Nodes-1, 2), p.Size()-1)
	at(t, p, "the first state", p.State(0), p.Size()-5*p.Nodes)
}

// notFormed asks whether the plan isn't formed, and has nothing then.
func notFormed(t *testing.T, p Plan) {
	t.Helper()
	if p.Formed() {
		t.Errorf("%+v is formed", p)
	}
	at(t, p, "Size", p.Size(), 0)
	at(t, p, "Cells", p.Cells(), 0)
	at(t, p, "Head", p.Head(), api.None)
	for _, i := range append(far(), -1, 0, 1, 2, 3, p.Domains-1, p.Threads-1, p.Nodes-1) {
		at(t, p, "Kind", p.Kind(i), api.None)
		at(t, p, "Count", p.Count(i), api.None)
		at(t, p, "State", p.State(i), api.None)
		at(t, p, "Next", p.Next(i), api.None)
		at(t, p, "how many Words", len(p.Words(i)), 0)
		for _, j := range []int{i, 0, 1, -1} {
			at(t, p, "Cell", p.Cell(i, j), api.None)
			at(t, p, "Hazard", p.Hazard(i, j), api.None)
			at(t, p, "Retired", p.Retired(i, j), api.None)
			at(t, p, "Field", p.Field(i, j), api.None)
		}
	}
}

func TestNone(t *testing.T) {
	if api.None != -1 || api.Slots != 3 || api.Fields != 3 {
		t.Error(api.None, api.Slots, api.Fields)
	}
}

// P6.1: Formed.

func TestFormed(t *testing.T) {
	for _, p := range several() {
		formed(t, p)
	}
}

func TestEachNumberAtItsBounds(t *testing.T) {
	for _, x := range numbers() {
		for _, n := range []int{x.least, x.least + 1, x.most - 1, x.most} {
			formed(t, x.with(mid, n))
		}
		for _, n := range append(far(), x.least-1, x.most+1, -x.most) {
			notFormed(t, x.with(mid, n))
		}
	}
}

// TestOneWrongNumberBesideTheLeastAndTheGreatest: a number that is wrong is told
// whatever the others are.
func TestOneWrongNumberBesideTheLeastAndTheGreatest(t *testing.T) {
	for _, x := range numbers() {
		notFormed(t, x.with(greatest, x.most+1))
		for _, n := range far() {
			notFormed(t, x.with(greatest, n))
			notFormed(t, x.with(least, n))
		}
		if x.name != "Retire" {
			notFormed(t, x.with(least, x.least-1))
		}
	}
	notFormed(t, Plan{})
	notFormed(t, Plan{-1, -1, -1, -1, -1, -1})
}

// TestRetireHangsOnThreads: it is more than the threads' hazards are together.
func TestRetireHangsOnThreads(t *testing.T) {
	for threads := 1; threads <= api.MaxThreads; threads++ {
		p := Plan{Nodes: 3, Threads: threads, Domains: 1, Buckets: 2, Gen: 1}
		for _, n := range []int{0, 1, 3*threads - 1, 3 * threads, 1025, math.MinInt, math.MaxInt} {
			if n <= 3*threads || n > 1024 {
				p.Retire = n
				notFormed(t, p)
			}
		}
		for _, n := range []int{3*threads + 1, 3*threads + 2, 1023, 1024} {
			p.Retire = n
			formed(t, p)
		}
	}
}

// TestThreadsThatWrapRound: three times their number is a small one, or below 0, so
// that it asks nothing of Retire.
func TestThreadsThatWrapRound(t *testing.T) {
	for _, threads := range far() {
		for _, n := range []int{3*threads + 1, 3*threads + 2, 1, 4, 1024} {
			notFormed(t, Plan{Nodes: 1, Threads: threads, Retire: n, Buckets: 1, Gen: 1})
		}
	}
}

// TestGenIsNoWord: whatever it is, the places are the same ones.
func TestGenIsNoWord(t *testing.T) {
	a, b := mid, mid
	a.Gen, b.Gen = 1, api.MaxGen
	if a.Size() != b.Size() || a.Cells() != b.Cells() || !slices.Equal(places(a), places(b)) {
		t.Error(a, b)
	}
}

// P6.1: Size, Cells and the places.

// TestExample is the chapter's; its plan tells no Buckets, which may be any of a
// formed plan, and no Gen.
func TestExample(t *testing.T) {
	for _, buckets := range []int{1, 2, 3, 256} {
		p := Plan{Nodes: 2, Threads: 1, Retire: 4, Buckets: buckets, Gen: 1}
		at(t, p, "Head", p.Head(), 0)
		at(t, p, "Hazard(0, 2)", p.Hazard(0, 2), 3)
		at(t, p, "Count(0)", p.Count(0), 4)
		at(t, p, "State(0)", p.State(0), 9)
		at(t, p, "Size", p.Size(), 19)
	}
}

func TestLeast(t *testing.T) {
	p := least
	at(t, p, "Size", p.Size(), 14)
	at(t, p, "Cells", p.Cells(), 2)
	at(t, p, "Head", p.Head(), 0)
	at(t, p, "Hazard(0, 0)", p.Hazard(0, 0), 1)
	at(t, p, "Hazard(0, 2)", p.Hazard(0, 2), 3)
	at(t, p, "Count(0)", p.Count(0), 4)
	at(t, p, "Retired(0, 0)", p.Retired(0, 0), 5)
	at(t, p, "Retired(0, 3)", p.Retired(0, 3), 8)
	at(t, p, "State(0)", p.State(0), 9)
	at(t, p, "Next(0)", p.Next(0), 10)
	at(t, p, "Field(0, 0)", p.Field(0, 0), 11)
	at(t, p, "Field(0, 2)", p.Field(0, 2), 13)
	words(t, p, 0, 11, 12, 13)
}

func TestGreatest(t *testing.T) {
	p := greatest
	at(t, p, "Size", p.Size(), 5275777)
	at(t, p, "Cells", p.Cells(), 256)
	at(t, p, "Head", p.Head(), 0)
	at(t, p, "Kind(0)", p.Kind(0), 1)
	at(t, p, "Cell(0, 255)", p.Cell(0, 255), 257)
	at(t, p, "Kind(63)", p.Kind(63), 16192)
	at(t, p, "Cell(63, 255)", p.Cell(63, 255), 16448)
	at(t, p, "Hazard(0, 0)", p.Hazard(0, 0), 16449)
	at(t, p, "Hazard(15, 2)", p.Hazard(15, 2), 16496)
	at(t, p, "Count(0)", p.Count(0), 16497)
	at(t, p, "Retired(0, 0)", p.Retired(0, 0), 16498)
	at(t, p, "Count(15)", p.Count(15), 31872)
	at(t, p, "Retired(15, 1023)", p.Retired(15, 1023), 32896)
	at(t, p, "State(0)", p.State(0), 32897)
	at(t, p, "State(1048575)", p.State(1048575), 5275772)
	at(t, p, "Next(1048575)", p.Next(1048575), 5275773)
	at(t, p, "Field(1048575, 2)", p.Field(1048575, 2), 5275776)
	words(t, p, 0, 32899, 32900, 32901)
	words(t, p, 1048575, 5275774, 5275775, 5275776)
}

// TestOrdinary is a plan with some of everything, whose places are told by hand.
func TestOrdinary(t *testing.T) {
	p := Plan{Nodes: 4, Threads: 2, Retire: 8, Domains: 3, Buckets: 5, Gen: 7}
	at(t, p, "Size", p.Size(), 63)
	at(t, p, "Cells", p.Cells(), 5)
	at(t, p, "Head", p.Head(), 0)
	at(t, p, "Kind(0)", p.Kind(0), 1)
	at(t, p, "Kind(2)", p.Kind(2), 13)
	at(t, p, "Cell(0, 0)", p.Cell(0, 0), 2)
	at(t, p, "Cell(0, 4)", p.Cell(0, 4), 6)
	at(t, p, "Cell(2, 0)", p.Cell(2, 0), 14)
	at(t, p, "Cell(2, 4)", p.Cell(2, 4), 18)
	at(t, p, "Hazard(0, 0)", p.Hazard(0, 0), 19)
	at(t, p, "Hazard(0, 2)", p.Hazard(0, 2), 21)
	at(t, p, "Hazard(1, 0)", p.Hazard(1, 0), 22)
	at(t, p, "Hazard(1, 2)", p.Hazard(1, 2), 24)
	at(t, p, "Count(0)", p.Count(0), 25)
	at(t, p, "Retired(0, 0)", p.Retired(0, 0), 26)
	at(t, p, "Retired(0, 7)", p.Retired(0, 7), 33)
	at(t, p, "Count(1)", p.Count(1), 34)
	at(t, p, "Retired(1, 0)", p.Retired(1, 0), 35)
	at(t, p, "Retired(1, 7)", p.Retired(1, 7), 42)
	at(t, p, "State(0)", p.State(0), 43)
	at(t, p, "Next(0)", p.Next(0), 44)
	at(t, p, "Field(0, 0)", p.Field(0, 0), 45)
	at(t, p, "Field(0, 2)", p.Field(0, 2), 47)
	at(t, p, "State(3)", p.State(3), 58)
	at(t, p, "Next(3)", p.Next(3), 59)
	at(t, p, "Field(3, 0)", p.Field(3, 0), 60)
	at(t, p, "Field(3, 2)", p.Field(3, 2), 62)
	words(t, p, 2, 55, 56, 57)
}

// TestCells: two at least, else as many as Buckets, with domains or without.
func TestCells(t *testing.T) {
	for buckets := 1; buckets <= api.MaxBuckets; buckets++ {
		want := buckets
		if buckets == 1 {
			want = 2
		}
		for _, domains := range []int{0, 1, 3, api.MaxDomains} {
			p := Plan{Nodes: 1, Threads: 1, Retire: 4, Domains: domains, Buckets: buckets, Gen: 1}
			at(t, p, "Cells", p.Cells(), want)
			at(t, p, "Size", p.Size(), 14+domains*(1+want))
		}
	}
}

func TestOneBucketHasTwoCells(t *testing.T) {
	p := Plan{Nodes: 1, Threads: 1, Retire: 4, Domains: 2, Buckets: 1, Gen: 1}
	at(t, p, "Cell(0, 0)", p.Cell(0, 0), 2)
	at(t, p, "Cell(0, 1)", p.Cell(0, 1), 3)
	at(t, p, "Cell(0, 2)", p.Cell(0, 2), api.None)
	at(t, p, "Kind(1)", p.Kind(1), 4)
	at(t, p, "Cell(1, 1)", p.Cell(1, 1), 6)
	at(t, p, "Cell(1, 2)", p.Cell(1, 2), api.None)
	at(t, p, "Hazard(0, 0)", p.Hazard(0, 0), 7)
}

func TestNoDomains(t *testing.T) {
	p := Plan{Nodes: 9, Threads: 3, Retire: 20, Domains: 0, Buckets: 8, Gen: 1}
	at(t, p, "Cells", p.Cells(), 8)
	for _, d := range beyond(0) {
		at(t, p, "Kind", p.Kind(d), api.None)
		for _, i := range append(far(), -1, 0, 1, 7, 8) {
			at(t, p, "Cell", p.Cell(d, i), api.None)
		}
	}
	at(t, p, "Hazard(0, 0)", p.Hazard(0, 0), 1)
}

// TestOneBehindTheOther goes through all words in the chapter's order, and counts.
func TestOneBehindTheOther(t *testing.T) {
	for _, p := range several() {
		for i, got := range places(p) {
			if got != i {
				t.Fatalf("%+v: the word %d, in order, has the place %d", p, i, got)
			}
		}
	}
}

// places is what the plan answers of all its words, in the order in which the
// chapter tells them; it counts them by the plan's numbers alone.
func places(p Plan) []int {
	cells := p.Buckets
	if cells < 2 {
		cells = 2
	}
	l := []int{p.Head()}
	for d := range p.Domains {
		l = append(l, p.Kind(d))
		for i := range cells {
			l = append(l, p.Cell(d, i))
		}
	}
	for thread := range p.Threads {
		l = append(l, p.Hazard(thread, 0), p.Hazard(thread, 1), p.Hazard(thread, 2))
	}
	for thread := range p.Threads {
		l = append(l, p.Count(thread))
		for i := range p.Retire {
			l = append(l, p.Retired(thread, i))
		}
	}
	for n := range p.Nodes {
		l = append(l, p.State(n), p.Next(n), p.Field(n, 0), p.Field(n, 1), p.Field(n, 2))
	}
	return l
}

// P6.1: Words.

// words asks whether the node's words are these.
func words(t *testing.T, p Plan, n int, want ...int) {
	t.Helper()
	if got := p.Words(n); !slices.Equal(got, want) {
		t.Errorf("%+v: Words(%d) is %v; want %v", p, n, got, want)
	}
}

func TestWordsOfEachNode(t *testing.T) {
	for _, p := range append(small(), mid) {
		first := p.Size() - 5*p.Nodes
		for n := range p.Nodes {
			own := first + 5*n
			words(t, p, n, own+2, own+3, own+4)
			words(t, p, n, p.Field(n, 0), p.Field(n, 1), p.Field(n, 2))
		}
	}
}

// TestWordsAreNewMemory: what is answered may be changed, and grown, by who got it (R5).
func TestWordsAreNewMemory(t *testing.T) {
	p := mid
	for n := range p.Nodes {
		a, b := p.Words(n), p.Words(n)
		want := slices.Clone(a)
		for i := range a {
			a[i] = -7
		}
		_ = append(a[:0], 91, 92, 93, 94)
		if !slices.Equal(b, want) {
			t.Errorf("Words(%d): %v is changed; want %v", n, b, want)
		}
		for other := range p.Nodes {
			words(t, p, other, p.Field(other, 0), p.Field(other, 1), p.Field(other, 2))
		}
		words(t, p, n, want...)
	}
}

// P6.1: what isn't there.

func TestDomainsAndCellsThatAreNotThere(t *testing.T) {
	for _, p := range several() {
		for _, d := range beyond(p.Domains) {
			at(t, p, "Kind", p.Kind(d), api.None)
			for _, i := range append(beyond(p.Cells()), 0, 1, p.Cells()-1) {
				at(t, p, "Cell", p.Cell(d, i), api.None)
			}
		}
		for d := range p.Domains {
			for _, i := range beyond(p.Cells()) {
				at(t, p, "Cell", p.Cell(d, i), api.None)
			}
		}
	}
}

func TestThreadsHazardsAndRetiredThatAreNotThere(t *testing.T) {
	for _, p := range several() {
		for _, thread := range beyond(p.Threads) {
			at(t, p, "Count", p.Count(thread), api.None)
			for _, i := range append(beyond(3), 0, 1, 2) {
				at(t, p, "Hazard", p.Hazard(thread, i), api.None)
			}
			for _, i := range append(beyond(p.Retire), 0, 1, p.Retire-1) {
				at(t, p, "Retired", p.Retired(thread, i), api.None)
			}
		}
		for thread := range p.Threads {
			for _, i := range beyond(3) {
				at(t, p, "Hazard", p.Hazard(thread, i), api.None)
			}
			for _, i := range beyond(p.Retire) {
				at(t, p, "Retired", p.Retired(thread, i), api.None)
			}
		}
	}
}

func TestNodesAndFieldsThatAreNotThere(t *testing.T) {
	for _, p := range several() {
		for _, n := range beyond(p.Nodes) {
			at(t, p, "State", p.State(n), api.None)
			at(t, p, "Next", p.Next(n), api.None)
			at(t, p, "how many Words", len(p.Words(n)), 0)
			for _, f := range append(beyond(3), 0, 1, 2) {
				at(t, p, "Field", p.Field(n, f), api.None)
			}
		}
		for _, n := range []int{0, p.Nodes / 2, p.Nodes - 1} {
			for _, f := range beyond(3) {
				at(t, p, "Field", p.Field(n, f), api.None)
			}
		}
	}
}

// P6.2.

// TestEachPlaceIsOneWord: all places of all words, each once, are those from 0 to
// Size - 1.
func TestEachPlaceIsOneWord(t *testing.T) {
	for _, p := range several() {
		had := make([]int, p.Size())
		for _, i := range places(p) {
			if i < 0 || i >= len(had) {
				t.Fatalf("%+v: the place %d isn't one of %d", p, i, len(had))
			}
			had[i]++
		}
		if i := slices.IndexFunc(had, func(n int) bool { return n != 1 }); i >= 0 {
			t.Errorf("%+v: the place %d is that of %d words", p, i, had[i])
		}
	}
}

// TestPlansDoNotHangOnOneAnother: what one was asked is no part of what another
// one, or the same, answers then (R7).
func TestPlansDoNotHangOnOneAnother(t *testing.T) {
	a := Plan{Nodes: 4, Threads: 2, Retire: 8, Domains: 3, Buckets: 5, Gen: 7}
	b := Plan{Nodes: 2, Threads: 1, Retire: 4, Domains: 0, Buckets: 1, Gen: 1}
	wasA, wasB := places(a), places(b)
	for range 3 {
		places(mid)
		notFormed(t, Plan{Nodes: 4, Threads: 2, Retire: 6, Domains: 3, Buckets: 5, Gen: 7})
		if !slices.Equal(places(a), wasA) || !slices.Equal(places(b), wasB) {
			t.Error(a, b)
		}
	}
}
