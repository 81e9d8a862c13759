package pte_test

import (
	"math"
	"testing"

	"silhouette/api"
	"silhouette/pte"
)

// odd are numbers that are no Frame.
var odd = []int{math.MinInt, math.MinInt + 1, math.MinInt + 1<<20, math.MinInt32, -1 << 32, -1<<20 - 1, -1 << 20, -1<<20 + 1, -2, -1, 1 << 20, 1<<20 + 1, 1 << 21, math.MaxInt32, 1 << 32, 1<<32 + 1, 1 << 51, 1 << 52, 1<<52 + 1, 1 << 62, math.MaxInt - 1, math.MaxInt}

// frames are Frames about every edge.
var frames = []int{0, 1, 2, 3, 7, 8, 255, 256, 0x12345, 0xAAAAA, 0x55555, 1<<19 - 1, 1 << 19, 1<<20 - 2, 1<<20 - 1}

// bit: is a bit of v 1?
func bit(v uint64, i int) bool { return v>>i&1 == 1 }

// says is what a word says, as the chapter tells it.
func says(v uint64) api.Pte {
	p := api.Pte{P: bit(v, 0), W: bit(v, 1), U: bit(v, 2), A: bit(v, 5), D: bit(v, 6), PS: bit(v, 7), NX: bit(v, 63)}
	for i := range 20 {
		if bit(v, 12+i) {
			p.Frame += 1 << i
		}
	}
	for i := range 64 {
		if (i == 3 || i == 4 || i >= 8 && i <= 11 || i >= 32 && i <= 62) && bit(v, i) {
			p.Bad = true
		}
	}
	return p
}

// flags is an entry of a frame with those flags that the bits of n, from 0 to 127, choose.
func flags(n, f int) api.Pte {
	is := func(i int) bool { return n>>i&1 == 1 }
	return api.Pte{P: is(0), W: is(1), U: is(2), A: is(3), D: is(4), PS: is(5), NX: is(6), Frame: f}
}

// words are words of every kind: few bits, most bits, and those of a plain rule.
func words() []uint64 {
	l := []uint64{0, math.MaxUint64, 7, 103, 1<<32 - 1, 1<<63 - 1, 0xFFFFF000, 0xFFFFF0E7, 0x80000000FFFFF0E7, 0x7FFFFFFF00000F18}
	for i := range 64 {
		for j := range i + 1 {
			v := uint64(1)<<i | uint64(1)<<j
			l = append(l, v, ^v)
		}
	}
	x := uint64(1)
	for range 20000 {
		x = x*6364136223846793005 + 1442695040888963407
		v := x ^ x>>32
		l = append(l, v, v&0x80000000FFFFF0E7)
	}
	return l
}

// isGot tells if Get of v is not want.
func isGot(t *testing.T, v uint64, want api.Pte) {
	t.Helper()
	if p := pte.Get(v); p != want {
		t.Fatalf("Get(%#x) is %+v, not %+v", v, p, want)
	}
}

// isPut tells if Put of p is not want.
func isPut(t *testing.T, p api.Pte, want uint64) {
	t.Helper()
	if v, is := pte.Put(p); v != want || !is {
		t.Fatalf("Put(%+v) is %#x, %t, not %#x", p, v, is, want)
	}
}

// isNotPut tells if Put of p is something.
func isNotPut(t *testing.T, p api.Pte) {
	t.Helper()
	if v, is := pte.Put(p); v != 0 || is {
		t.Fatalf("Put(%+v) is %#x, %t", p, v, is)
	}
}

// isUsed tells if Used of v, not written, and written, are not these.
func isUsed(t *testing.T, v, read, written uint64) {
	t.Helper()
	if got := pte.Used(v, false); got != read {
		t.Fatalf("Used(%#x, false) is %#x, not %#x", v, got, read)
	}
	if got := pte.Used(v, true); got != written {
		t.Fatalf("Used(%#x, true) is %#x, not %#x", v, got, written)
	}
}

// P4.1: D1, the chapter's example: a word of 0 says nothing.
func TestGetOfNothing(t *testing.T) {
	isGot(t, 0, api.Pte{})
}

// P4.1: D1, a word of all bits.
func TestGetOfAllBits(t *testing.T) {
	isGot(t, math.MaxUint64, api.Pte{P: true, W: true, U: true, A: true, D: true, PS: true, NX: true, Bad: true, Frame: 1<<20 - 1})
}

// P4.1: D1, the document's example: an entry of 7 may be written, by a user, and run; its frame is 0.
func TestGetOfSeven(t *testing.T) {
	isGot(t, 7, api.Pte{P: true, W: true, U: true})
}

// P4.1: D1, each bit alone says its own thing alone.
func TestGetOfEachBit(t *testing.T) {
	for i := range 64 {
		var want api.Pte
		switch {
		case i == 0:
			want.P = true
		case i == 1:
			want.W = true
		case i == 2:
			want.U = true
		case i == 5:
			want.A = true
		case i == 6:
			want.D = true
		case i == 7:
			want.PS = true
		case i == 63:
			want.NX = true
		case i >= 12 && i <= 31:
			want.Frame = 1 << (i - 12)
		default:
			want.Bad = true
		}
		isGot(t, 1<<i, want)
	}
}

// P4.1: D1, what is not P, and what is Bad, says all the rest too.
func TestGetOfBitsTogether(t *testing.T) {
	isGot(t, 1<<63|128|1<<12, api.Pte{PS: true, NX: true, Frame: 1})
	isGot(t, 7|8, api.Pte{P: true, W: true, U: true, Bad: true})
	isGot(t, 0x12345<<12|103|1<<32, api.Pte{P: true, W: true, U: true, A: true, D: true, Bad: true, Frame: 0x12345})
	for _, v := range words() {
		isGot(t, v, says(v))
	}
}

// P4.1, P4.2: D1, an entry of each set of flags, and of frames at the edges, is put, and got again.
func TestWhatIsPutIsGot(t *testing.T) {
	at := []int{0, 1, 2, 5, 6, 7, 63}
	for _, f := range frames {
		for n := range 128 {
			want := uint64(f) << 12
			for i, b := range at {
				if bit(uint64(n), i) {
					want |= 1 << b
				}
			}
			isPut(t, flags(n, f), want)
			isGot(t, want, flags(n, f))
		}
	}
}

// P4.1, P4.2: D1, all frames.
func TestAllFrames(t *testing.T) {
	for f := range 1 << 20 {
		p := api.Pte{Frame: f}
		isPut(t, p, uint64(f)<<12)
		isGot(t, uint64(f)<<12, p)
	}
}

// P4.2: a word that is not Bad is put as it was.
func TestWhatIsGotIsPut(t *testing.T) {
	bad := 0
	for _, v := range words() {
		if p := pte.Get(v); p.Bad {
			bad++
			isNotPut(t, p)
		} else {
			isPut(t, p, v)
		}
	}
	if bad == 0 || bad == len(words()) {
		t.Errorf("%d words are bad", bad)
	}
}

// P4.1, P2: D1, there is no word of a frame that none tells: 0 and false, whatever else the entry says.
func TestPutOfAFrameThatMayNotBe(t *testing.T) {
	for _, f := range odd {
		for n := range 128 {
			isNotPut(t, flags(n, f))
			p := flags(n, f)
			p.Bad = true
			isNotPut(t, p)
		}
	}
	for f := -300; f < 0; f++ {
		isNotPut(t, api.Pte{P: true, Frame: f})
		isNotPut(t, api.Pte{P: true, Frame: 1<<20 - 1 - f})
	}
	for i := 20; i < 64; i++ {
		isNotPut(t, api.Pte{P: true, Frame: int(uint64(1)<<i | 5)})
	}
}

// P4.1, P2: D1, there is no word of what is Bad, of whatever frame.
func TestPutOfBad(t *testing.T) {
	isNotPut(t, api.Pte{Bad: true})
	for _, f := range frames {
		for n := range 128 {
			p := flags(n, f)
			p.Bad = true
			isNotPut(t, p)
		}
	}
}

// P4.1: D2, of words with A, D, both or neither.
func TestUsedOfFew(t *testing.T) {
	isUsed(t, 0, 32, 96)
	isUsed(t, 32, 32, 96)
	isUsed(t, 64, 96, 96)
	isUsed(t, 96, 96, 96)
	isUsed(t, 1, 33, 97)
	isUsed(t, 24, 56, 120)
	isUsed(t, math.MaxUint64, math.MaxUint64, math.MaxUint64)
	isUsed(t, math.MaxUint64-96, math.MaxUint64-64, math.MaxUint64)
}

// P4.1, P4.3: D2, Used changes nothing but A and D, has them be no more never, and D be just if it is written; also of what is Bad.
func TestUsedOfAll(t *testing.T) {
	for _, v := range words() {
		for i := range 64 {
			read, written := bit(pte.Used(v, false), i), bit(pte.Used(v, true), i)
			if read != (bit(v, i) || i == 5) || written != (bit(v, i) || i == 5 || i == 6) {
				t.Fatalf("the bit %d of Used(%#x) is %t, and written %t", i, v, read, written)
			}
		}
		p := says(v)
		p.A = true
		isGot(t, pte.Used(v, false), p)
		p.D = true
		isGot(t, pte.Used(v, true), p)
	}
}

// P4.3: Used twice is as once; what was written to stays so, in whichever order.
func TestUsedTwice(t *testing.T) {
	for _, v := range words() {
		read, written := pte.Used(v, false), pte.Used(v, true)
		isUsed(t, read, read, written)
		isUsed(t, written, written, written)
	}
}

// P3: the same call answers the same again, whatever was called between.
func TestCallsAreApart(t *testing.T) {
	l := words()
	for i, v := range l {
		p := pte.Get(v)
		o := pte.Get(l[len(l)-1-i])
		pte.Used(^v, i%2 == 0)
		pte.Put(o)
		if p != says(v) || pte.Get(v) != p {
			t.Fatalf("Get(%#x) is not the same again", v)
		}
		first, is := pte.Put(p)
		pte.Put(api.Pte{Frame: -1, NX: true})
		pte.Put(api.Pte{PS: true, Frame: 5})
		if again, too := pte.Put(p); again != first || too != is {
			t.Fatalf("Put(%+v) is %#x, %t, and then %#x, %t", p, first, is, again, too)
		}
	}
}

// P1, P2: every call ends and none panics, at all arguments.
func TestNothingPanics(t *testing.T) {
	for _, v := range words() {
		p := pte.Get(v)
		pte.Used(v, false)
		pte.Used(v, true)
		for _, f := range append(frames, odd...) {
			for _, bad := range []bool{false, true} {
				p.Frame, p.Bad = f, bad
				w, is := pte.Put(p)
				if is != (!bad && f >= 0 && f < 1<<20) || !is && w != 0 {
					t.Fatalf("Put(%+v) is %#x, %t", p, w, is)
				}
			}
		}
	}
}
