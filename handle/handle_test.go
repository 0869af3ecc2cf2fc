package handle

import (
	"math"
	"testing"

	"cubicle/api"
)

// The tests tell limits and words by plain numbers, so that they share nothing with
// the constants and the layout of the package.
const (
	lastIndex  = 1048575
	lastGen    = 1073741823
	lastTenant = 63
)

func indexes() []int {
	return []int{0, 1, 2, 3, 5, 255, 256, 65535, 1 << 19, 1<<19 + 1, 0x55555, 0xaaaaa, lastIndex - 1, lastIndex}
}

func gens() []int {
	return []int{0, 1, 2, 3, 7, 65535, 1 << 20, 1 << 29, 1<<29 + 1, 0x15555555, 0x2aaaaaaa, lastGen - 1, lastGen}
}

func tenants() []int {
	return []int{0, 1, 2, 7, 21, 31, 32, 42, lastTenant - 1, lastTenant}
}

// formedHandles are handles of several numbers, the least and the greatest of each
// among them.
func formedHandles() []Handle {
	var l []Handle
	for _, index := range indexes() {
		for _, gen := range gens() {
			for _, tenant := range tenants() {
				l = append(l, Handle{index, gen, tenant})
			}
		}
	}
	return l
}

// fewHandles are those of them that are least or greatest in each number, and some
// between.
func fewHandles() []Handle {
	var l []Handle
	for _, index := range []int{0, 3, lastIndex} {
		for _, gen := range []int{0, 1 << 20, lastGen} {
			for _, tenant := range []int{0, 42, lastTenant} {
				l = append(l, Handle{index, gen, tenant})
			}
		}
	}
	return l
}

// far are numbers that no Index, Gen or Tenant is; some of them are small ones, or 0,
// if they are cut to fewer bits.
func far() []int {
	return []int{
		math.MinInt, math.MinInt + 1, math.MinInt + 3, math.MinInt / 2, -1 << 50, -1 << 32, math.MinInt32,
		-1 << 30, -lastGen, -1 << 20, -64, -2, -1,
		lastGen + 1, lastGen + 2, 1 << 31, 1<<31 + 1, 1 << 32, 1<<32 + 1, 1 << 44, 1 << 58, 1 << 62, 1<<62 + 3,
		math.MaxInt/2 + 1, math.MaxInt - 1, math.MaxInt,
	}
}

func badIndexes() []int {
	return append(far(), lastIndex+1, lastIndex+2, 1<<20+3, 1<<21, lastGen)
}

func badTenants() []int {
	return append(far(), lastTenant+1, lastTenant+2, 127, 128, 256, lastIndex, lastGen)
}

// notFormedHandles are handles with one number, two or three, that may not be so.
func notFormedHandles() []Handle {
	var l []Handle
	for _, h := range fewHandles() {
		for _, n := range badIndexes() {
			l = append(l, Handle{n, h.Gen, h.Tenant})
		}
		for _, n := range far() {
			l = append(l, Handle{h.Index, n, h.Tenant})
		}
		for _, n := range badTenants() {
			l = append(l, Handle{h.Index, h.Gen, n})
		}
	}
	for _, a := range far() {
		for _, b := range far() {
			l = append(l, Handle{a, b, 0}, Handle{a, 0, b}, Handle{0, a, b}, Handle{a, b, a}, Handle{a, b, b})
		}
	}
	return l
}

// wordOf reckons a formed handle's word by plain numbers.
func wordOf(h Handle) uint64 {
	return withSeal(h, 42)
}

// withSeal is the same, but with that number in the last field.
func withSeal(h Handle, seal uint64) uint64 {
	return uint64(h.Index) + uint64(h.Gen)*1048576 + uint64(h.Tenant)*1125899906842624 + seal*288230376151711744
}

// reckoned splits a word by plain numbers.
func reckoned(w uint64) (Handle, bool) {
	if w/72057594037927936 != 168 {
		return Handle{}, false
	}
	return Handle{int(w % 1048576), int(w / 1048576 % 1073741824), int(w / 1125899906842624 % 64)}, true
}

// isOf asks whether the word is that handle's.
func isOf(t *testing.T, w uint64, want Handle) {
	t.Helper()
	if h, ok := Of(w); h != want || !ok {
		t.Errorf("Of(%#x) is %+v, %v; want %+v, true", w, h, ok, want)
	}
}

// isMine asks whether the word is that handle's, for the tenant with so many nodes.
func isMine(t *testing.T, w uint64, tenant, nodes int, want Handle) {
	t.Helper()
	if h, ok := Mine(w, tenant, nodes); h != want || !ok {
		t.Errorf("Mine(%#x, %d, %d) is %+v, %v; want %+v, true", w, tenant, nodes, h, ok, want)
	}
}

// notMine asks whether it is none of the tenant's.
func notMine(t *testing.T, w uint64, tenant, nodes int) {
	t.Helper()
	if h, ok := Mine(w, tenant, nodes); h != (Handle{}) || ok {
		t.Errorf("Mine(%#x, %d, %d) is %+v, %v; want a zero handle, false", w, tenant, nodes, h, ok)
	}
}

// isNone asks whether the word is no handle's, and so no tenant's.
func isNone(t *testing.T, w uint64) {
	t.Helper()
	if h, ok := Of(w); h != (Handle{}) || ok {
		t.Errorf("Of(%#x) is %+v, %v; want a zero handle, false", w, h, ok)
	}
	for _, tenant := range []int{0, 1, int(w >> 50 & 63), lastTenant, -1, lastTenant + 1, math.MinInt, math.MaxInt} {
		for _, nodes := range []int{1, lastIndex + 1, math.MaxInt, 0, -1, math.MinInt} {
			notMine(t, w, tenant, nodes)
		}
	}
}

func TestLimits(t *testing.T) {
	if api.MaxNodes != lastIndex+1 || api.MaxGen != lastGen || api.MaxTenants != lastTenant+1 {
		t.Error(api.MaxNodes, api.MaxGen, api.MaxTenants)
	}
}

// P8.1: Formed, Word, Of, Mine.

// TestExample is the chapter's.
func TestExample(t *testing.T) {
	h := Handle{Index: 3, Gen: 1, Tenant: 0}
	if w := h.Word(); w != 3+1<<20+42<<58 || !h.Formed() {
		t.Error(w, h.Formed())
	}
	isOf(t, 3+1<<20+42<<58, h)
	isMine(t, 3+1<<20+42<<58, 0, 4, h)
}

// TestByHand has words that are told by hand; the first is of the document's examples
// of the whole.
func TestByHand(t *testing.T) {
	cases := []struct {
		h Handle
		w uint64
	}{
		{Handle{0, 0, 0}, 12105675798371893248},
		{Handle{1, 0, 0}, 0xa800000000000001},
		{Handle{lastIndex, 0, 0}, 0xa8000000000fffff},
		{Handle{0, 1, 0}, 0xa800000000100000},
		{Handle{0, lastGen, 0}, 0xa803fffffff00000},
		{Handle{0, 0, 1}, 0xa804000000000000},
		{Handle{0, 0, lastTenant}, 0xa8fc000000000000},
		{Handle{lastIndex, lastGen, 0}, 0xa803ffffffffffff},
		{Handle{lastIndex, 0, lastTenant}, 0xa8fc0000000fffff},
		{Handle{0, lastGen, lastTenant}, 0xa8fffffffff00000},
		{Handle{lastIndex, lastGen, lastTenant}, 0xa8ffffffffffffff},
		{Handle{0x12345, 0x0abcdef1, 0x2a}, 0xa8a8abcdef112345},
		{Handle{5, 2, 7}, 0xa81c000000200005},
	}
	for _, c := range cases {
		if got := c.h.Word(); got != c.w || !c.h.Formed() {
			t.Errorf("%+v: the word %#x, formed %v; want %#x", c.h, got, c.h.Formed(), c.w)
		}
		isOf(t, c.w, c.h)
		isMine(t, c.w, c.h.Tenant, c.h.Index+1, c.h)
	}
}

func TestFormed(t *testing.T) {
	for _, h := range formedHandles() {
		if !h.Formed() {
			t.Errorf("%+v isn't formed", h)
		}
		if got := h.Word(); got != wordOf(h) {
			t.Errorf("%+v: the word %#x; want %#x", h, got, wordOf(h))
		}
		isOf(t, wordOf(h), h)
	}
}

func TestNotFormed(t *testing.T) {
	for _, h := range notFormedHandles() {
		if h.Formed() {
			t.Errorf("%+v is formed", h)
		}
		if got := h.Word(); got != 0 {
			t.Errorf("%+v: the word %#x; want 0", h, got)
		}
	}
}

func TestWordsOfNone(t *testing.T) {
	for _, w := range []uint64{0, 1, lastIndex, 42, 1 << 20, 1 << 50, 1<<56 - 1, 1 << 56, 1 << 57, 42 << 57, 42 << 52, 42 << 50,
		41 << 58, 43 << 58, 1 << 58, 1 << 63, 1<<58 - 1, math.MaxInt64, math.MaxUint64, math.MaxUint64 - 1} {
		isNone(t, w)
	}
}

// TestAnotherSeal: the number from 58 on is 42, and none of the others.
func TestAnotherSeal(t *testing.T) {
	for _, h := range fewHandles() {
		for seal := range uint64(64) {
			if seal == 42 {
				isOf(t, withSeal(h, seal), h)
				continue
			}
			isNone(t, withSeal(h, seal))
		}
	}
}

// TestBitsBetween: the two bits that no field has are 0.
func TestBitsBetween(t *testing.T) {
	for _, h := range formedHandles() {
		for _, bits := range []uint64{1 << 56, 1 << 57, 1<<56 + 1<<57} {
			w := wordOf(h) + bits
			if x, ok := Of(w); x != (Handle{}) || ok {
				t.Errorf("Of(%#x) is %+v, %v", w, x, ok)
			}
			notMine(t, w, h.Tenant, lastIndex+1)
		}
	}
	for _, h := range fewHandles() {
		for seal := range uint64(64) {
			isNone(t, withSeal(h, seal)+1<<56)
			isNone(t, withSeal(h, seal)+1<<57)
		}
	}
}

func TestMine(t *testing.T) {
	for _, h := range formedHandles() {
		w := wordOf(h)
		for _, nodes := range []int{h.Index + 1, h.Index + 2, lastIndex + 1, lastIndex + 2, 1 << 32, 1<<32 + 1, math.MaxInt} {
			isMine(t, w, h.Tenant, nodes, h)
		}
	}
}

// TestMineTooFewNodes: an Index that is the nodes, or more, is none.
func TestMineTooFewNodes(t *testing.T) {
	for _, h := range formedHandles() {
		w := wordOf(h)
		for _, nodes := range []int{h.Index, h.Index - 1, h.Index / 2, 0, -1, -h.Index, -1 << 32, math.MinInt + 1, math.MinInt} {
			notMine(t, w, h.Tenant, nodes)
		}
	}
}

// TestMineOfAnother: each tenant but its own is refused, and so is who is no tenant.
func TestMineOfAnother(t *testing.T) {
	for _, h := range fewHandles() {
		w := wordOf(h)
		others := append(badTenants(), h.Tenant-1, h.Tenant+1, h.Tenant-64, h.Tenant+64, h.Tenant+128, h.Tenant+1<<32, ^h.Tenant)
		for tenant := range 64 {
			others = append(others, tenant)
		}
		for _, tenant := range others {
			for _, nodes := range []int{h.Index + 1, lastIndex + 1, math.MaxInt, h.Index, 0, -1, math.MinInt} {
				if tenant == h.Tenant && h.Index < nodes {
					isMine(t, w, tenant, nodes, h)
					continue
				}
				notMine(t, w, tenant, nodes)
			}
		}
	}
}

// TestManyWords holds a fixed long row of words, half of them with 42 where it belongs,
// against a plain reckoning of what they are.
func TestManyWords(t *testing.T) {
	w := uint64(1)
	handles := 0
	for i := range 200000 {
		w = w*6364136223846793005 + 1442695040888963407
		x := w>>(i%64) | w<<(64-i%64)
		if i%2 == 0 {
			x = x&(1<<58-1) | 42<<58
		}
		want, ok := reckoned(x)
		if h, is := Of(x); h != want || is != ok {
			t.Fatalf("Of(%#x) is %+v, %v; want %+v, %v", x, h, is, want, ok)
		}
		if !ok {
			notMine(t, x, int(x>>50&63), math.MaxInt)
			continue
		}
		if want.Word() != x || !want.Formed() {
			t.Fatalf("%+v: the word %#x; want %#x", want, want.Word(), x)
		}
		isMine(t, x, want.Tenant, want.Index+1, want)
		notMine(t, x, want.Tenant, want.Index)
		notMine(t, x, want.Tenant^1, want.Index+1)
		handles++
	}
	if handles < 20000 {
		t.Error("too few handles:", handles)
	}
}

// P8.2.

func TestComesAgain(t *testing.T) {
	for _, h := range formedHandles() {
		w := h.Word()
		if w == 0 {
			t.Errorf("%+v has the word 0", h)
		}
		isOf(t, w, h)
		isMine(t, w, h.Tenant, lastIndex+1, h)
	}
	isNone(t, 0)
}

// TestEachIndexAndTenant goes through all of them, and through Gens at both ends.
func TestEachIndexAndTenant(t *testing.T) {
	for index := range lastIndex + 1 {
		h := Handle{index, lastGen - index, index % 64}
		if x, ok := Of(h.Word()); x != h || !ok {
			t.Fatalf("%+v came again as %+v, %v", h, x, ok)
		}
		g := Handle{lastIndex - index, index, 63 - index%64}
		if x, ok := Mine(g.Word(), g.Tenant, g.Index+1); x != g || !ok {
			t.Fatalf("%+v came again as %+v, %v", g, x, ok)
		}
	}
}

// TestEachBitTurned: with one bit of its word turned it is another handle's, which
// differs in the number of that bit alone, or none's.
func TestEachBitTurned(t *testing.T) {
	for _, h := range fewHandles() {
		for bit := range 64 {
			w := h.Word() ^ 1<<bit
			want := h
			switch {
			case bit < 20:
				want.Index ^= 1 << bit
			case bit < 50:
				want.Gen ^= 1 << (bit - 20)
			case bit < 56:
				want.Tenant ^= 1 << (bit - 50)
			default:
				isNone(t, w)
				continue
			}
			isOf(t, w, want)
			if want.Word() != w {
				t.Errorf("%+v: the word %#x; want %#x", want, want.Word(), w)
			}
		}
	}
}

// TestNoTwoHaveOneWord goes through handles in a row, at both ends of each number.
func TestNoTwoHaveOneWord(t *testing.T) {
	had := map[uint64]Handle{}
	for i := range 40 {
		for j := range 40 {
			for tenant := range 64 {
				note(t, had, Handle{i, j, tenant})
				note(t, had, Handle{lastIndex - i, lastGen - j, tenant})
				note(t, had, Handle{1<<19 - 20 + i, 1<<29 - 20 + j, tenant})
			}
		}
	}
}

func note(t *testing.T, had map[uint64]Handle, h Handle) {
	t.Helper()
	w := h.Word()
	if other, ok := had[w]; ok {
		t.Fatalf("%+v and %+v have the word %#x", h, other, w)
	}
	had[w] = h
}

// The rules.

// TestAllEnd: each call ends and none panics, whatever it is given (R1); what isn't
// formed comes to no handle.
func TestAllEnd(t *testing.T) {
	words := []uint64{0, 1, 1 << 56, 1 << 63, wordOf(Handle{}), wordOf(Handle{lastIndex, lastGen, lastTenant}), math.MaxUint64}
	numbers := append(badTenants(), 0, 1, lastTenant, lastIndex, lastIndex+1)
	for _, a := range numbers {
		for _, b := range numbers {
			for _, w := range words {
				want, is := reckoned(w)
				if !is || a != want.Tenant || b <= want.Index {
					notMine(t, w, a, b)
					continue
				}
				isMine(t, w, a, b, want)
			}
			for _, c := range numbers {
				h := Handle{a, b, c}
				if !h.Formed() && h.Word() != 0 {
					t.Errorf("%+v has the word %#x", h, h.Word())
				}
			}
		}
	}
}

// TestHandlesAreLeft: what is asked of a handle leaves it as it is, and what is answered
// hangs on no call ahead (R5, R7).
func TestHandlesAreLeft(t *testing.T) {
	for _, h := range append(fewHandles(), notFormedHandles()...) {
		was, formed, word := h, h.Formed(), h.Word()
		a, ok := Of(word)
		b, mine := Mine(word, h.Tenant, math.MaxInt)
		if ok != formed || mine != formed || a != b {
			t.Fatalf("%+v: %+v, %v, and %+v, %v", h, a, ok, b, mine)
		}
		a.Index, b.Gen = 91, 92
		Of(math.MaxUint64)
		Mine(wordOf(Handle{7, 8, 9}), 9, 8)
		if h != was || h.Formed() != formed || h.Word() != word {
			t.Fatalf("%+v was %+v", h, was)
		}
		if x, is := Of(word); is != formed || (is && x != was) {
			t.Fatalf("Of(%#x) is %+v, %v, another time", word, x, is)
		}
	}
}
