package state

import (
	"math"
	"testing"

	"cubicle/api"
)

// The tests tell modes, kinds and words by plain numbers, so that they share nothing
// with the constants and the layout of the package.
const mostGen = 1073741823

// gens are Gens of formed states, the least and the greatest among them.
func gens() []int {
	return []int{0, 1, 2, 3, 4, 5, 255, 256, 65535, 1 << 20, 1 << 28, 1 << 29, 1<<29 + 1, mostGen - 1, mostGen}
}

// formedStates are states of each Mode and each Kind, with several Gens.
func formedStates() []State {
	var l []State
	for _, gen := range gens() {
		for mode := range 4 {
			for kind := range 3 {
				l = append(l, State{gen, mode, kind})
			}
		}
	}
	return l
}

// far are numbers that no Gen, Mode or Kind is; some of them are small ones, or 0, if
// they are cut to fewer bits.
func far() []int {
	return []int{
		math.MinInt, math.MinInt + 1, math.MinInt + 2, math.MinInt / 2, -1 << 34, -1 << 32, math.MinInt32,
		-1 << 30, -mostGen, -256, -4, -3, -2, -1,
		mostGen + 1, mostGen + 2, 1 << 31, 1<<31 + 1, 1 << 32, 1<<32 + 1, 1<<32 + 2, 1 << 34, 1 << 62, 1<<62 + 1,
		math.MaxInt/2 + 1, math.MaxInt - 1, math.MaxInt,
	}
}

func badModes() []int {
	return append(far(), 4, 5, 6, 7, 8, 16, 255, 256, mostGen)
}

func badKinds() []int {
	return append(far(), 3, 4, 5, 6, 7, 8, 16, 255, 256, mostGen)
}

// notFormedStates are states with one number, two or three, that may not be so.
func notFormedStates() []State {
	var l []State
	for _, s := range formedStates() {
		for _, n := range far() {
			l = append(l, State{n, s.Mode, s.Kind})
		}
		for _, n := range badModes() {
			l = append(l, State{s.Gen, n, s.Kind})
		}
		for _, n := range badKinds() {
			l = append(l, State{s.Gen, s.Mode, n})
		}
	}
	for _, a := range badKinds() {
		l = append(l, State{0, a, a}, State{-1, 1, a}, State{mostGen + 1, a, 1}, State{a, 4, 3}, State{a, -1, -1})
	}
	for _, a := range far() {
		l = append(l, State{a, a, a}, State{a, a, 0}, State{a, 0, a})
	}
	return l
}

// anyStates are all of them.
func anyStates() []State {
	return append(formedStates(), notFormedStates()...)
}

// wordOf reckons a formed state's word by plain numbers.
func wordOf(s State) uint64 {
	return uint64(s.Gen) + uint64(s.Mode)*1073741824 + uint64(s.Kind)*4294967296
}

// same asks whether a state is that.
func same(t *testing.T, what string, from, got, want State) {
	t.Helper()
	if got != want {
		t.Errorf("%s of %+v is %+v; want %+v", what, from, got, want)
	}
}

// isOf asks whether the word is that state's.
func isOf(t *testing.T, w uint64, want State) {
	t.Helper()
	if s, ok := Of(w); s != want || !ok {
		t.Errorf("Of(%#x) is %+v, %v; want %+v, true", w, s, ok, want)
	}
}

// isNone asks whether the word is no state's.
func isNone(t *testing.T, w uint64) {
	t.Helper()
	if s, ok := Of(w); s != (State{}) || ok {
		t.Errorf("Of(%#x) is %+v, %v; want a zero state, false", w, s, ok)
	}
}

func TestNumbers(t *testing.T) {
	if Free != 0 || Live != 1 || Retired != 2 || Gone != 3 {
		t.Error("modes:", Free, Live, Retired, Gone)
	}
	if Plain != 0 || Queued != 1 || Listed != 2 {
		t.Error("kinds:", Plain, Queued, Listed)
	}
	if api.MaxGen != mostGen {
		t.Error("MaxGen:", api.MaxGen)
	}
}

// P7.1: Formed, Word, Of.

// TestExample is the chapter's.
func TestExample(t *testing.T) {
	s := State{Gen: 5, Mode: 1, Kind: 0}
	if w := s.Word(); w != 5+1<<30 || !s.Formed() {
		t.Error(w, s.Formed())
	}
	isOf(t, 5+1<<30, s)
}

// TestByHand has words that are told by hand.
func TestByHand(t *testing.T) {
	cases := []struct {
		s State
		w uint64
	}{
		{State{0, 0, 0}, 0},
		{State{1, 0, 0}, 1},
		{State{mostGen, 0, 0}, 0x3fffffff},
		{State{0, 1, 0}, 0x40000000},
		{State{0, 2, 0}, 0x80000000},
		{State{0, 3, 0}, 0xc0000000},
		{State{0, 0, 1}, 0x100000000},
		{State{0, 0, 2}, 0x200000000},
		{State{mostGen, 3, 0}, 0xffffffff},
		{State{mostGen, 3, 1}, 0x1ffffffff},
		{State{mostGen, 3, 2}, 0x2ffffffff},
		{State{0x1234567, 1, 2}, 0x241234567},
		{State{0x1234567, 2, 1}, 0x181234567},
		{State{0x2aaaaaaa, 1, 1}, 0x16aaaaaaa},
		{State{0x15555555, 2, 2}, 0x295555555},
	}
	for _, c := range cases {
		if got := c.s.Word(); got != c.w || !c.s.Formed() {
			t.Errorf("%+v: the word %#x, formed %v; want %#x", c.s, got, c.s.Formed(), c.w)
		}
		isOf(t, c.w, c.s)
	}
}

func TestFormed(t *testing.T) {
	for _, s := range formedStates() {
		if !s.Formed() {
			t.Errorf("%+v isn't formed", s)
		}
		if got := s.Word(); got != wordOf(s) {
			t.Errorf("%+v: the word %#x; want %#x", s, got, wordOf(s))
		}
		isOf(t, wordOf(s), s)
	}
}

func TestNotFormed(t *testing.T) {
	for _, s := range notFormedStates() {
		if s.Formed() {
			t.Errorf("%+v is formed", s)
		}
		if got := s.Word(); got != 0 {
			t.Errorf("%+v: the word %#x; want 0", s, got)
		}
	}
}

// TestZeroWord: the one word that a state that isn't formed has, too, is a state's.
func TestZeroWord(t *testing.T) {
	isOf(t, 0, State{})
	if s := (State{}); !s.Formed() || s.Word() != 0 {
		t.Error(s)
	}
}

func TestEachBit(t *testing.T) {
	for bit := range 30 {
		isOf(t, 1<<bit, State{Gen: 1 << bit})
	}
	isOf(t, 1<<30, State{Mode: 1})
	isOf(t, 1<<31, State{Mode: 2})
	isOf(t, 1<<32, State{Kind: 1})
	isOf(t, 1<<33, State{Kind: 2})
	for bit := 34; bit < 64; bit++ {
		isNone(t, 1<<bit)
	}
}

// TestEachBitBeyond: one bit from 34 on is enough, whatever the others are.
func TestEachBitBeyond(t *testing.T) {
	for bit := 34; bit < 64; bit++ {
		for _, s := range formedStates() {
			isNone(t, wordOf(s)+1<<bit)
		}
	}
	isNone(t, math.MaxUint64)
	isNone(t, math.MaxUint64-1<<32)
	isNone(t, math.MaxUint64-(1<<34-1))
}

func TestKindThatIsNone(t *testing.T) {
	for _, gen := range gens() {
		for mode := range 4 {
			w := wordOf(State{gen, mode, 3})
			isNone(t, w)
			isNone(t, w+1<<34)
			isNone(t, w+1<<63)
		}
	}
}

// TestManyWords holds a fixed long row of words, of all lengths, against a plain
// reckoning of what they are.
func TestManyWords(t *testing.T) {
	w := uint64(1)
	states := 0
	for i := range 200000 {
		w = w*6364136223846793005 + 1442695040888963407
		x := w >> (i % 64)
		gen, mode, kind := x%1073741824, x/1073741824%4, x/4294967296
		if kind > 2 {
			isNone(t, x)
			continue
		}
		s := State{int(gen), int(mode), int(kind)}
		isOf(t, x, s)
		if s.Word() != x {
			t.Errorf("%+v: the word %#x; want %#x", s, s.Word(), x)
		}
		states++
	}
	if states < 50000 {
		t.Error("too few states:", states)
	}
}

// P7.2: Live, Retire, Freed.

func TestLive(t *testing.T) {
	for _, s := range anyStates() {
		for kind := range 3 {
			same(t, "Live", s, s.Live(kind), State{s.Gen, 1, kind})
		}
	}
	for _, s := range formedStates() {
		for kind := range 3 {
			if got := s.Live(kind); !got.Formed() || got.Word() != wordOf(State{s.Gen, 1, kind}) {
				t.Errorf("Live(%d) of %+v: formed %v, the word %#x", kind, s, got.Formed(), got.Word())
			}
		}
	}
}

// TestLiveOfAKindThatIsNone: it is told as it is, and isn't formed.
func TestLiveOfAKindThatIsNone(t *testing.T) {
	for _, s := range formedStates() {
		for _, kind := range badKinds() {
			got := s.Live(kind)
			same(t, "Live", s, got, State{s.Gen, 1, kind})
			if got.Formed() || got.Word() != 0 {
				t.Errorf("Live(%d) of %+v: formed %v, the word %#x", kind, s, got.Formed(), got.Word())
			}
		}
	}
}

func TestRetire(t *testing.T) {
	for _, s := range anyStates() {
		same(t, "Retire", s, s.Retire(), State{s.Gen, 2, s.Kind})
	}
	for _, s := range formedStates() {
		if got := s.Retire(); !got.Formed() || got.Retire() != got {
			t.Errorf("Retire of %+v: %+v", s, got)
		}
	}
}

// freed reckons what Freed is.
func freed(s State, most int) State {
	if s.Gen < most {
		return State{s.Gen + 1, 0, 0}
	}
	return State{s.Gen, 3, 0}
}

// TestFreedByHand has the edges of most, and those of Gen, told by hand.
func TestFreedByHand(t *testing.T) {
	cases := []struct{ gen, most, wantGen, wantMode int }{
		{4, 3, 4, 3}, {4, 4, 4, 3}, {4, 5, 5, 0}, {4, 6, 5, 0}, {4, mostGen, 5, 0},
		{4, 0, 4, 3}, {4, -1, 4, 3}, {4, math.MinInt, 4, 3}, {4, math.MaxInt, 5, 0},
		{0, -1, 0, 3}, {0, 0, 0, 3}, {0, 1, 1, 0}, {0, 2, 1, 0}, {0, mostGen, 1, 0},
		{0, math.MinInt, 0, 3}, {0, math.MaxInt, 1, 0},
		{1, 0, 1, 3}, {1, 1, 1, 3}, {1, 2, 2, 0},
		{mostGen - 1, mostGen - 2, mostGen - 1, 3}, {mostGen - 1, mostGen - 1, mostGen - 1, 3},
		{mostGen - 1, mostGen, mostGen, 0}, {mostGen - 1, math.MaxInt, mostGen, 0},
		{mostGen, mostGen - 1, mostGen, 3}, {mostGen, mostGen, mostGen, 3}, {mostGen, 0, mostGen, 3},
		{mostGen, -7, mostGen, 3}, {mostGen, mostGen + 1, mostGen + 1, 0}, {mostGen, math.MaxInt, mostGen + 1, 0},
		{-1, -2, -1, 3}, {-1, -1, -1, 3}, {-1, 0, 0, 0}, {-1, 5, 0, 0}, {-5, 5, -4, 0},
		{math.MinInt, math.MinInt, math.MinInt, 3}, {math.MinInt, math.MinInt + 1, math.MinInt + 1, 0},
		{math.MinInt, math.MaxInt, math.MinInt + 1, 0},
		{math.MaxInt, math.MaxInt, math.MaxInt, 3}, {math.MaxInt, math.MinInt, math.MaxInt, 3},
		{math.MaxInt - 1, math.MaxInt, math.MaxInt, 0},
	}
	for _, c := range cases {
		for mode := range 4 {
			for kind := range 3 {
				s := State{c.gen, mode, kind}
				same(t, "Freed", s, s.Freed(c.most), State{c.wantGen, c.wantMode, 0})
			}
		}
	}
}

func TestFreed(t *testing.T) {
	for _, s := range anyStates() {
		mosts := append(far(), 0, 1, mostGen-1, mostGen, s.Gen)
		if s.Gen > math.MinInt {
			mosts = append(mosts, s.Gen-1)
		}
		if s.Gen < math.MaxInt {
			mosts = append(mosts, s.Gen+1)
		}
		for _, most := range mosts {
			same(t, "Freed", s, s.Freed(most), freed(s, most))
		}
	}
}

// TestFreedIsFormed: of a formed state, by a most that a plan may have, it is.
func TestFreedIsFormed(t *testing.T) {
	for _, s := range formedStates() {
		for _, most := range append(gens(), s.Gen-1, s.Gen, math.MinInt) {
			if got := s.Freed(most); !got.Formed() {
				t.Errorf("Freed(%d) of %+v isn't formed: %+v", most, s, got)
			}
		}
	}
}

// TestFreedAboveMaxGen: the Gen is told one greater, as the words are, and the state
// isn't formed then.
func TestFreedAboveMaxGen(t *testing.T) {
	for _, most := range []int{mostGen + 1, mostGen + 2, 1 << 32, math.MaxInt} {
		for mode := range 4 {
			for kind := range 3 {
				s := State{mostGen, mode, kind}
				got := s.Freed(most)
				same(t, "Freed", s, got, State{mostGen + 1, 0, 0})
				if got.Formed() || got.Word() != 0 {
					t.Errorf("%+v: formed %v, the word %#x", got, got.Formed(), got.Word())
				}
			}
		}
	}
}

// TestGoneStaysGone: freed again by a most that its Gen is at least, it is the same.
func TestGoneStaysGone(t *testing.T) {
	for _, gen := range gens() {
		for kind := range 3 {
			s := State{gen, 3, kind}
			for _, most := range []int{gen, gen - 1, 0, -1, math.MinInt} {
				got := s.Freed(most)
				same(t, "Freed", s, got, State{gen, 3, 0})
				same(t, "Freed", got, got.Freed(most), got)
			}
		}
	}
}

// P7.3.

// TestComesAgain: a state comes again from its word, and so does what it turns to.
func TestComesAgain(t *testing.T) {
	for _, s := range formedStates() {
		turns := []State{s, s.Live(0), s.Live(1), s.Live(2), s.Retire(), s.Freed(s.Gen), s.Freed(0), s.Freed(mostGen)}
		for _, x := range turns {
			isOf(t, x.Word(), x)
		}
	}
}

// TestNoTwoHaveOneWord goes through the states of some Gens in a row, at both ends.
func TestNoTwoHaveOneWord(t *testing.T) {
	had := map[uint64]State{}
	for i := range 3000 {
		for _, gen := range []int{i, 1<<29 - 1500 + i, mostGen - i} {
			for mode := range 4 {
				for kind := range 3 {
					s := State{gen, mode, kind}
					w := s.Word()
					if other, ok := had[w]; ok {
						t.Fatalf("%+v and %+v have the word %#x", s, other, w)
					}
					had[w] = s
				}
			}
		}
	}
}

// TestLife: granted, retired and freed again and again, by one most, the Gen rises one
// by one, until it is GONE, at the most.
func TestLife(t *testing.T) {
	cases := []struct{ first, most int }{
		{0, 0}, {0, 1}, {0, 2}, {0, 1000}, {7, 7}, {7, 8}, {9, 7}, {3, -1},
		{mostGen - 1000, mostGen}, {mostGen - 1, mostGen}, {mostGen, mostGen}, {1<<29 - 5, 1<<29 + 5},
	}
	for _, c := range cases {
		life(t, c.first, c.most)
	}
}

func life(t *testing.T, first, most int) {
	t.Helper()
	s := State{Gen: first}
	last := max(first, most)
	for gen := first; gen <= last; gen++ {
		if s != (State{gen, 0, 0}) {
			t.Fatalf("most %d: %+v isn't FREE, PLAIN, of the Gen %d", most, s, gen)
		}
		kind := gen % 3
		s = through(t, s.Live(kind))
		same(t, "Live", State{}, s, State{gen, 1, kind})
		s = through(t, s.Retire())
		same(t, "Retire", State{}, s, State{gen, 2, kind})
		s = through(t, s.Freed(most))
	}
	if s != (State{last, 3, 0}) {
		t.Errorf("most %d: %+v isn't GONE at the Gen %d", most, s, last)
	}
	for range 3 {
		s = through(t, s.Freed(most))
		same(t, "Freed", State{}, s, State{last, 3, 0})
	}
}

// through is what comes again from the state's word.
func through(t *testing.T, s State) State {
	t.Helper()
	x, ok := Of(s.Word())
	if !ok {
		t.Fatalf("the word of %+v is none's", s)
	}
	return x
}

// TestGenRises: from Freed to Freed it does, whatever stands between, until it is GONE.
func TestGenRises(t *testing.T) {
	between := []func(s State) State{
		func(s State) State { return s },
		func(s State) State { return s.Live(2) },
		func(s State) State { return s.Retire() },
		func(s State) State { return s.Live(1).Retire() },
		func(s State) State { return s.Retire().Live(0).Retire() },
	}
	const most = 40
	s := State{}.Freed(most)
	for i := 0; s.Mode != 3; i++ {
		was := s.Gen
		s = between[i%len(between)](s).Freed(most)
		if s.Gen != was+1 && (s.Mode != 3 || was != most) {
			t.Fatalf("behind the Gen %d: %+v", was, s)
		}
	}
	same(t, "the last Freed", State{}, s, State{most, 3, 0})
}

// The rules.

// TestStatesAreLeft: what is asked of a state leaves it as it is, and what is answered
// hangs on no call ahead (R5, R7).
func TestStatesAreLeft(t *testing.T) {
	for _, s := range anyStates() {
		was, formed, word := s, s.Formed(), s.Word()
		a := s.Live(2)
		b := s.Retire()
		c := s.Freed(s.Gen)
		a.Gen, b.Kind, c.Mode = 91, 92, 93
		Of(word)
		Of(math.MaxUint64)
		if s != was || s.Formed() != formed || s.Word() != word {
			t.Fatalf("%+v was %+v", s, was)
		}
		same(t, "Live", s, s.Live(2), State{was.Gen, 1, 2})
		same(t, "Retire", s, s.Retire(), State{was.Gen, 2, was.Kind})
		same(t, "Freed", s, s.Freed(s.Gen), State{was.Gen, 3, 0})
	}
}
