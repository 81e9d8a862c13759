package va_test

import (
	"math"
	"math/big"
	"testing"

	"silhouette/va"
)

// high is the bits 14 to 63.
const high uint64 = 0xFFFFFFFFFFFFC000

// odd are numbers about every edge, as pages, words and levels.
var odd = []int{math.MinInt, math.MinInt + 1, math.MinInt + 7, math.MinInt + 8, math.MinInt + 511, math.MinInt + 512, math.MinInt32, -1 << 32, -1<<32 + 1, -1025, -1024, -514, -513, -512, -511, -509, -257, -256, -255, -65, -64, -63, -16, -9, -8, -7, -3, -2, -1, 0, 1, 2, 3, 4, 5, 6, 7, 8, 9, 15, 16, 63, 64, 65, 254, 255, 256, 257, 300, 510, 511, 512, 513, 1023, 1024, 1 << 15, math.MaxInt32, 1 << 32, 1<<32 + 1, 1 << 62, math.MaxInt - 512, math.MaxInt - 511, math.MaxInt - 8, math.MaxInt - 7, math.MaxInt - 1, math.MaxInt}

// pages are the odd ones, and all from below 0 to beyond 512.
func pages() []int {
	l := append([]int(nil), odd...)
	for p := -1100; p <= 1700; p++ {
		l = append(l, p)
	}
	return l
}

// addresses are of every kind: few bits, most bits, those with the same bits from 14 on but one, and those of a plain rule.
func addresses() []uint64 {
	l := []uint64{0, math.MaxUint64, 200, 63, 64, 1<<14 - 1, 1 << 14, 1<<15 - 1, 1 << 15, 1<<15 | 64, high, 0xFFFFFFFFFFFF8000, 1<<63 - 1, 1 << 63}
	for i := range 64 {
		for j := range i + 1 {
			v := uint64(1)<<i | uint64(1)<<j
			l = append(l, v, ^v)
		}
	}
	x := uint64(1)
	for range 5000 {
		x = x*6364136223846793005 + 1442695040888963407
		v := x ^ x>>32
		l = append(l, v, v&(1<<14-1), v|high, v&(1<<15-1))
	}
	return l
}

// bit: is a bit of a 1?
func bit(a uint64, i int) bool { return a>>i&1 == 1 }

// number is what so many bits of a tell, from one on, as the chapter tells it.
func number(a uint64, first, many int) int {
	n := 0
	for i := range many {
		if bit(a, first+i) {
			n += 1 << i
		}
	}
	return n
}

// isCanonical: are the bits 15 to 63 all the same as the bit 14?
func isCanonical(a uint64) bool {
	for i := 15; i < 64; i++ {
		if bit(a, i) != bit(a, 14) {
			return false
		}
	}
	return true
}

// modulo is the number from 0 on that is the same as n modulo m, worked out without bits.
func modulo(n, m int) int {
	return int(new(big.Int).Mod(big.NewInt(int64(n)), big.NewInt(int64(m))).Int64())
}

// joined is the address of a page and a word, as the chapter tells it.
func joined(page, word int) uint64 {
	a := uint64(modulo(page, 512)*64 + modulo(word, 8)*8)
	if bit(a, 14) {
		for i := 15; i < 64; i++ {
			a += 1 << i
		}
	}
	return a
}

// tells tells if the parts of an address are not these.
func tells(t *testing.T, a uint64, canon, aligned bool, page, word int) {
	t.Helper()
	if va.Canon(a) != canon {
		t.Fatalf("Canon(%#x) is not %t", a, canon)
	}
	if va.Aligned(a) != aligned {
		t.Fatalf("Aligned(%#x) is not %t", a, aligned)
	}
	if got := va.Page(a); got != page {
		t.Fatalf("Page(%#x) is %d, not %d", a, got, page)
	}
	if got := va.Word(a); got != word {
		t.Fatalf("Word(%#x) is %d, not %d", a, got, word)
	}
}

// joins tells if Join is not that address.
func joins(t *testing.T, page, word int, want uint64) {
	t.Helper()
	if got := va.Join(page, word); got != want {
		t.Fatalf("Join(%d, %d) is %#x, not %#x", page, word, got, want)
	}
}

// isIdx tells if Idx is not that place.
func isIdx(t *testing.T, page, level, want int) {
	t.Helper()
	if got := va.Idx(page, level); got != want {
		t.Fatalf("Idx(%d, %d) is %d, not %d", page, level, got, want)
	}
}

// P5.1: E1, of 0, and of all bits.
func TestPartsOfNoneAndOfAll(t *testing.T) {
	tells(t, 0, true, true, 0, 0)
	tells(t, math.MaxUint64, true, false, 511, 7)
}

// P5.1: E1, of few addresses; the document's examples among them.
func TestPartsOfFew(t *testing.T) {
	tells(t, 200, true, true, 3, 1)
	tells(t, 4, true, false, 0, 0)
	tells(t, 7, true, false, 0, 0)
	tells(t, 8, true, true, 0, 1)
	tells(t, 56, true, true, 0, 7)
	tells(t, 63, true, false, 0, 7)
	tells(t, 64, true, true, 1, 0)
	tells(t, 1<<14-1, true, false, 255, 7)
	tells(t, 1<<14, false, true, 256, 0)
	tells(t, 1<<15-1, false, false, 511, 7)
	tells(t, 1<<15, false, true, 0, 0)
	tells(t, 1<<15|64, false, true, 1, 0)
	tells(t, high, true, true, 256, 0)
	tells(t, 0xFFFFFFFFFFFF8000, false, true, 0, 0)
	tells(t, math.MaxUint64-7, true, true, 511, 7)
}

// P5.1: E1, each of the 64 bits alone tells its own part alone, and all but it all the rest.
func TestPartsOfEachBit(t *testing.T) {
	for i := range 64 {
		page, word := 0, 0
		if i >= 3 && i <= 5 {
			word = 1 << (i - 3)
		}
		if i >= 6 && i <= 14 {
			page = 1 << (i - 6)
		}
		tells(t, 1<<i, i < 14, i > 2, page, word)
		tells(t, ^uint64(1<<i), i < 14, false, 511-page, 7-word)
	}
}

// P5.1: E1, addresses whose bits 14 to 63 are all the same but one are not canonical, whatever is below.
func TestCanonOfAllTheSameButOne(t *testing.T) {
	for i := 14; i < 64; i++ {
		for _, low := range []uint64{0, 1, 8, 64, 1 << 13, 200, 1<<14 - 1} {
			a := low | 1<<i
			tells(t, a, false, low%8 == 0, number(a, 6, 9), number(a, 3, 3))
			a = (low | high) &^ (1 << i)
			tells(t, a, false, low%8 == 0, number(a, 6, 9), number(a, 3, 3))
		}
	}
}

// P5.1: E1, all addresses of 16 bits, with none and with all bits above them.
func TestPartsOfAllBelow(t *testing.T) {
	for low := range uint64(1 << 16) {
		for _, a := range []uint64{low, low | 0xFFFFFFFFFFFF0000} {
			tells(t, a, isCanonical(a), a%8 == 0, number(a, 6, 9), number(a, 3, 3))
		}
	}
}

// P5.1: E1, of addresses of every kind.
func TestPartsOfMany(t *testing.T) {
	canon, not := 0, 0
	for _, a := range addresses() {
		tells(t, a, isCanonical(a), !bit(a, 0) && !bit(a, 1) && !bit(a, 2), number(a, 6, 9), number(a, 3, 3))
		if isCanonical(a) {
			canon++
		} else {
			not++
		}
	}
	if canon == 0 || not == 0 {
		t.Errorf("%d addresses are canonical, %d are not", canon, not)
	}
}

// P5.1: E2, Join at the edges; the chapter's example among them.
func TestJoinOfFew(t *testing.T) {
	joins(t, 0, 0, 0)
	joins(t, 0, 7, 56)
	joins(t, 0, 8, 0)
	joins(t, 0, 9, 8)
	joins(t, 0, -1, 56)
	joins(t, 3, 1, 200)
	joins(t, 255, 0, 255*64)
	joins(t, 255, 7, 1<<14-8)
	joins(t, 256, 0, high)
	joins(t, 256, 7, high|56)
	joins(t, 257, 8, high|64)
	joins(t, 511, 0, math.MaxUint64-63)
	joins(t, 511, 7, math.MaxUint64-7)
	joins(t, 512, 0, 0)
	joins(t, 512, 7, 56)
	joins(t, 513, -8, 64)
	joins(t, -1, 0, math.MaxUint64-63)
	joins(t, -1, -1, math.MaxUint64-7)
	joins(t, -256, 0, high)
	joins(t, -257, 0, 255*64)
	joins(t, -509, -7, 200)
	joins(t, -512, -8, 0)
	joins(t, -513, -9, math.MaxUint64-7)
}

// P5.1: E2, Join of the greatest and the least numbers.
func TestJoinOfGreatestAndLeast(t *testing.T) {
	joins(t, math.MaxInt, 0, math.MaxUint64-63)
	joins(t, math.MinInt, 0, 0)
	joins(t, 0, math.MaxInt, 56)
	joins(t, 0, math.MinInt, 0)
	joins(t, math.MaxInt, math.MaxInt, math.MaxUint64-7)
	joins(t, math.MinInt, math.MinInt, 0)
	joins(t, math.MaxInt, math.MinInt, math.MaxUint64-63)
	joins(t, math.MinInt, math.MaxInt, 56)
	joins(t, math.MinInt+1, math.MinInt+1, 72)
}

// P5.1: E2, Join of all pages and words there are, of those about them, and of odd ones.
func TestJoinOfMany(t *testing.T) {
	for _, p := range pages() {
		for w := -17; w <= 17; w++ {
			joins(t, p, w, joined(p, w))
		}
	}
	for _, p := range odd {
		for _, w := range odd {
			joins(t, p, w, joined(p, w))
		}
	}
}

// P5.1: E2, Idx of few pages, of each level.
func TestIdxOfFew(t *testing.T) {
	for _, c := range [][4]int{ // a page, and its places of the levels 3, 2 and 1
		{0, 0, 0, 0}, {1, 0, 0, 1}, {7, 0, 0, 7}, {8, 0, 1, 0}, {63, 0, 7, 7}, {64, 1, 0, 0}, {300, 4, 5, 4}, {255, 3, 7, 7}, {256, 4, 0, 0}, {511, 7, 7, 7},
		{512, 0, 0, 0}, {513, 0, 0, 1}, {512 + 300, 4, 5, 4}, {1023, 7, 7, 7}, {1024, 0, 0, 0},
		{-1, 7, 7, 7}, {-2, 7, 7, 6}, {-8, 7, 7, 0}, {-64, 7, 0, 0}, {-65, 6, 7, 7}, {-212, 4, 5, 4}, {-512, 0, 0, 0}, {-513, 7, 7, 7},
		{math.MaxInt, 7, 7, 7}, {math.MinInt, 0, 0, 0}, {math.MinInt + 300, 4, 5, 4},
	} {
		for i, level := range []int{3, 2, 1} {
			isIdx(t, c[0], level, c[1+i])
		}
	}
}

// P5.1: E2, Idx of all pages, of those beyond and below, and of odd ones, of each level.
func TestIdxOfMany(t *testing.T) {
	for _, p := range pages() {
		m := modulo(p, 512)
		isIdx(t, p, 1, m%8)
		isIdx(t, p, 2, m/8%8)
		isIdx(t, p, 3, m/64)
	}
}

// P5.1, P1: E2, Idx of what is no level is 0, whatever the page.
func TestIdxOfNoLevel(t *testing.T) {
	levels := []int{math.MinInt, math.MinInt + 1, math.MinInt + 2, math.MinInt32, -1 << 32, -1<<32 + 1, -22, -21, -20, -4, -3, -2, -1, 0, 4, 5, 6, 7, 8, 20, 21, 22, 23, 64, 65, 1 << 32, 1<<32 + 1, 1<<32 + 3, 1 << 62, math.MaxInt - 1, math.MaxInt}
	for _, level := range levels {
		for _, p := range pages() {
			isIdx(t, p, level, 0)
		}
	}
}

// P5.2: a canonical, aligned address is that of its page and word; any other is not.
func TestAddressesThereAndBack(t *testing.T) {
	found := 0
	for _, a := range addresses() {
		same := va.Join(va.Page(a), va.Word(a)) == a
		if same != (va.Canon(a) && va.Aligned(a)) {
			t.Fatalf("%#x comes back as %#x", a, va.Join(va.Page(a), va.Word(a)))
		}
		if same {
			found++
		}
	}
	if found < 5 {
		t.Errorf("%d addresses alone come back", found)
	}
	for low := uint64(0); low < 1<<14; low += 8 {
		for _, a := range []uint64{low, low | high} {
			joins(t, va.Page(a), va.Word(a), a)
		}
	}
}

// P5.2: a page and a word are those of their address, which is canonical and aligned; it is of no others.
func TestPagesAndWordsThereAndBack(t *testing.T) {
	seen := map[uint64]struct{}{}
	for p := range 512 {
		for w := range 8 {
			a := va.Join(p, w)
			tells(t, a, true, true, p, w)
			seen[a] = struct{}{}
		}
	}
	if len(seen) != 512*8 {
		t.Errorf("there are %d addresses", len(seen))
	}
	for _, p := range odd {
		for _, w := range odd {
			tells(t, va.Join(p, w), true, true, modulo(p, 512), modulo(w, 8))
		}
	}
}

// P5.3: a page's places tell it.
func TestPlacesTellThePage(t *testing.T) {
	seen := map[[3]int]int{}
	for p := range 512 {
		at := [3]int{va.Idx(p, 3), va.Idx(p, 2), va.Idx(p, 1)}
		for _, i := range at {
			if i < 0 || i > 7 {
				t.Fatalf("the page %d has the places %v", p, at)
			}
		}
		if o, is := seen[at]; is {
			t.Fatalf("the pages %d and %d have the same places %v", o, p, at)
		}
		seen[at] = p
	}
	for _, p := range pages() {
		if got := va.Idx(p, 3)*64 + va.Idx(p, 2)*8 + va.Idx(p, 1); got != modulo(p, 512) {
			t.Fatalf("the places of the page %d tell %d", p, got)
		}
	}
}

// P3: the same call answers the same again, whatever was called between.
func TestCallsAreApart(t *testing.T) {
	l := addresses()
	for i, a := range l {
		canon, aligned, page, word := va.Canon(a), va.Aligned(a), va.Page(a), va.Word(a)
		o := l[len(l)-1-i]
		p, w := odd[i%len(odd)], odd[(i+7)%len(odd)]
		joint, place := va.Join(p, w), va.Idx(p, i%5)
		tells(t, o, isCanonical(o), o%8 == 0, number(o, 6, 9), number(o, 3, 3))
		va.Join(w, p)
		va.Idx(w, (i+1)%5)
		tells(t, a, canon, aligned, page, word)
		joins(t, p, w, joint)
		isIdx(t, p, i%5, place)
	}
}

// P1, P2: every call ends and none panics, at all arguments; each answers within its bounds.
func TestNothingPanics(t *testing.T) {
	for _, a := range addresses() {
		va.Canon(a)
		va.Aligned(a)
		if p, w := va.Page(a), va.Word(a); p < 0 || p > 511 || w < 0 || w > 7 {
			t.Fatalf("%#x is of the page %d and the word %d", a, p, w)
		}
	}
	for _, n := range odd {
		for _, o := range odd {
			if a := va.Join(n, o); !isCanonical(a) || a%8 != 0 {
				t.Fatalf("Join(%d, %d) is %#x", n, o, a)
			}
			if i := va.Idx(n, o); i < 0 || i > 7 || i > 0 && (o < 1 || o > 3) {
				t.Fatalf("Idx(%d, %d) is %d", n, o, i)
			}
		}
	}
}
