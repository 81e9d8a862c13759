package mmu_test

import (
	"math"
	"slices"
	"testing"

	"silhouette/api"
	"silhouette/frame"
	"silhouette/mmu"
	"silhouette/tlb"
)

// odd are numbers about every edge.
var odd = []int{math.MinInt, math.MinInt + 1, math.MinInt32, -1 << 32, -1<<32 + 1, -513, -512, -511, -65, -64, -9, -8, -7, -2, -1, 0, 1, 2, 3, 4, 7, 8, 9, 63, 64, 65, 255, 256, 511, 512, 513, 1<<20 - 1, 1 << 20, math.MaxInt32, 1 << 32, 1<<32 + 1, 1 << 61, 1 << 62, math.MaxInt - 1, math.MaxInt}

// users are what a user may be, and kinds the kinds that there are; noKinds are none.
var (
	users   = []bool{false, true}
	kinds   = []int{api.Load, api.Store, api.Exec}
	noKinds = []int{math.MinInt, math.MinInt + 1, math.MinInt + 2, -1 << 32, -256, -255, -254, -3, -2, -1, 3, 4, 5, 16, 256, 257, 258, 1 << 32, 1<<32 + 1, 1<<32 + 2, math.MaxInt - 1, math.MaxInt}
)

// Bits of entries, as the document tells them.
const (
	p  = 1
	w  = 2
	u  = 4
	a  = 32
	d  = 64
	ps = 128
	nx = 1 << 63
)

// all are the bits of an entry that permits all.
const all = p | w | u

// rights are all that there are.
var rights = []api.Right{{}, {W: true}, {U: true}, {W: true, U: true}, {X: true}, {W: true, X: true}, {U: true, X: true}, {W: true, U: true, X: true}}

// every is the right to all.
var every = api.Right{W: true, U: true, X: true}

// of is a word of the frame f, that has those bits.
func of(f int, bits uint64) uint64 { return uint64(f)<<12 | bits }

// bitsOf are those of an entry that permits just that.
func bitsOf(r api.Right) uint64 {
	bits := uint64(p | nx)
	if r.W {
		bits |= w
	}
	if r.U {
		bits |= u
	}
	if r.X {
		bits &^= nx
	}
	return bits
}

// place is the page's in a table of a level: its three digits of 0 to 7, of the page modulo 512.
func place(page, level int) int {
	n := (page%512 + 512) % 512
	return [...]int{0, n % 8, n / 8 % 8, n / 64}[level]
}

// may says whether an access is permitted.
func may(r api.Right, kind int, user bool) bool {
	return kind >= 0 && kind <= 2 && (!user || r.U) && (kind != 1 || r.W) && (kind != 2 || r.X)
}

// plain is a machine as the chapter tells it: the words that its memory is to have, and what is to be known.
type plain struct {
	words [][8]uint64
	most  int
	hits  []api.Hit
}

func (x *plain) walk(root, page int) (int, api.Right, bool) {
	f, r := root, every
	for _, level := range []int{3, 2, 1} {
		if f < 0 || f >= len(x.words) {
			return 0, api.Right{}, false
		}
		v := x.words[f][place(page, level)]
		if v%2 == 0 {
			return 0, api.Right{}, false
		}
		r = api.Right{W: r.W && v&w != 0, U: r.U && v&u != 0, X: r.X && v < nx}
		f = int(v / 4096 % (1 << 20))
	}
	return f, r, true
}

// drop has what is known of a page be known no more.
func (x *plain) drop(asid, page int) {
	x.hits = slices.DeleteFunc(x.hits, func(h api.Hit) bool { return h.Asid == asid && h.Page == page })
}

func (x *plain) put(h api.Hit) {
	x.drop(h.Asid, h.Page)
	x.hits = append(x.hits, h)
	if len(x.hits) > x.most {
		x.hits = x.hits[1:]
	}
}

func (x *plain) get(asid, page int) (api.Hit, bool) {
	for _, h := range x.hits {
		if h.Asid == asid && h.Page == page {
			return h, true
		}
	}
	return api.Hit{}, false
}

func (x *plain) access(root, asid, page, kind int, user bool) (int, bool) {
	page = (page%512 + 512) % 512
	if h, is := x.get(asid, page); is {
		if may(h.Right, kind, user) {
			return h.Frame, true
		}
		x.drop(asid, page)
	}
	f, r, is := x.walk(root, page)
	if !is || !may(r, kind, user) {
		return 0, false
	}
	x.put(api.Hit{Asid: asid, Page: page, Frame: f, Right: r})
	return f, true
}

func (x *plain) find(root, asid, page int) bool {
	page = (page%512 + 512) % 512
	if _, is := x.get(asid, page); is {
		return false
	}
	f, r, is := x.walk(root, page)
	if is {
		x.put(api.Hit{Asid: asid, Page: page, Frame: f, Right: r})
	}
	return is
}

// both are a machine, and a plain one, of like memories and TLBs.
type both struct {
	t *testing.T
	h *frame.Mem
	x *tlb.Tlb
	m *mmu.Mmu
	p *plain
}

// word is one of a host's, and what it is.
type word struct {
	f, i int
	v    uint64
}

// made are both, of so many frames of zeros but for those words, that know at most so many pages, and none yet.
func made(t *testing.T, frames, most int, l ...word) both {
	t.Helper()
	h, x := frame.New(frames), tlb.New(most)
	if h == nil || x == nil {
		t.Fatalf("there is no memory of %d frames, or no TLB of %d", frames, most)
	}
	b := both{t, h, x, mmu.New(h, x), &plain{words: make([][8]uint64, frames), most: most}}
	b.set(l...)
	return b
}

// set has words be others.
func (b both) set(l ...word) {
	b.t.Helper()
	for _, x := range l {
		if !b.h.Set(x.f, x.i, x.v) {
			b.t.Fatalf("there is no word %d, %d", x.f, x.i)
		}
		b.p.words[x.f][x.i] = x.v
	}
}

// same tells where a word of the memory, or what is known, is not as it is to be.
func (b both) same() {
	b.t.Helper()
	for f, want := range b.p.words {
		if [8]uint64(b.h.Frame(f)) != want {
			b.t.Fatalf("the frame %d is %x, not %x", f, b.h.Frame(f), want)
		}
	}
	if !slices.Equal(b.x.List(), b.p.hits) {
		b.t.Fatalf("known is %v, not %v", b.x.List(), b.p.hits)
	}
}

// walk is what a walk tells, that is to be as the plain one's, and to change nothing.
func (b both) walk(root, page int) (int, api.Right, bool) {
	b.t.Helper()
	f, r, is := b.m.Walk(root, page)
	if wantF, wantR, want := b.p.walk(root, page); f != wantF || r != wantR || is != want {
		b.t.Fatalf("Walk(%d, %d) is %d, %v, %t, not %d, %v, %t", root, page, f, r, is, wantF, wantR, want)
	}
	b.same()
	return f, r, is
}

// access is what an access takes, that is to be as the plain one's, and to have the same be known.
func (b both) access(root, asid, page, kind int, user bool) (int, bool) {
	b.t.Helper()
	f, is := b.m.Access(root, asid, page, kind, user)
	if wantF, want := b.p.access(root, asid, page, kind, user); f != wantF || is != want {
		b.t.Fatalf("Access(%d, %d, %d, %d, %t) is %d, %t, not %d, %t", root, asid, page, kind, user, f, is, wantF, want)
	}
	b.same()
	return f, is
}

func (b both) find(root, asid, page int) bool {
	b.t.Helper()
	is := b.m.Find(root, asid, page)
	if want := b.p.find(root, asid, page); is != want {
		b.t.Fatalf("Find(%d, %d, %d) is %t", root, asid, page, is)
	}
	b.same()
	return is
}

// put has somebody else have a hit be known.
func (b both) put(l ...api.Hit) {
	for _, h := range l {
		b.x.Put(h)
		b.p.put(h)
	}
}

// walks tells where a walk answers otherwise than that.
func (b both) walks(root, page, f int, r api.Right, is bool) {
	b.t.Helper()
	if gotF, gotR, got := b.walk(root, page); gotF != f || gotR != r || got != is {
		b.t.Fatalf("Walk(%d, %d) is %d, %v, %t, not %d, %v, %t", root, page, gotF, gotR, got, f, r, is)
	}
}

// takes tells where an access takes another frame than that, and takesNone where it takes one.
func (b both) takes(root, asid, page, kind int, user bool, f int) {
	b.t.Helper()
	if got, is := b.access(root, asid, page, kind, user); got != f || !is {
		b.t.Fatalf("Access(%d, %d, %d, %d, %t) is %d, %t, not %d", root, asid, page, kind, user, got, is, f)
	}
}

func (b both) takesNone(root, asid, page, kind int, user bool) {
	b.t.Helper()
	if got, is := b.access(root, asid, page, kind, user); got != 0 || is {
		b.t.Fatalf("Access(%d, %d, %d, %d, %t) is %d, %t", root, asid, page, kind, user, got, is)
	}
}

// finds tells where a Find answers otherwise than is.
func (b both) finds(root, asid, page int, is bool) {
	b.t.Helper()
	if b.find(root, asid, page) != is {
		b.t.Fatalf("Find(%d, %d, %d) is %t", root, asid, page, !is)
	}
}

// knows tells where other hits are known than these.
func (b both) knows(l ...api.Hit) {
	b.t.Helper()
	if !slices.Equal(b.x.List(), l) {
		b.t.Fatalf("known is %v, not %v", b.x.List(), l)
	}
}

// none tells where a page has a walk, or an access takes something, or a Find finds it, though nothing is to be known of it.
func (b both) none(root, page int) {
	b.t.Helper()
	was := b.x.List()
	b.walks(root, page, 0, api.Right{}, false)
	for _, kind := range append([]int{-1, 3}, kinds...) {
		for _, user := range users {
			b.takesNone(root, 5, page, kind, user)
		}
	}
	b.finds(root, 5, page, false)
	b.knows(was...)
}

// threePage is the page that the tables of three tell.
const threePage = 5*64 + 3*8 + 6

// threeAts are the places of its entries, from the level 3 on.
func threeAts() []api.At { return []api.At{{G: 1, I: 5}, {G: 4, I: 3}, {G: 7, I: 6}} }

// three are both, of twelve frames: from the root 1, by the frames 4 and 7, to the page threePage, that is the frame 9; each word's bits are those that are handed in.
func three(t *testing.T, bits ...uint64) both {
	t.Helper()
	return made(t, 12, 8, word{1, 5, of(4, bits[0])}, word{4, 3, of(7, bits[1])}, word{7, 6, of(9, bits[2])})
}

// eachPage are both, in which each page has a walk: from the root 0, by the frames 1 to 8, and 9 to 16, to the frames 17 to 24; the entry at a place i goes on to the i-th of these.
func eachPage(t *testing.T, most int) both {
	t.Helper()
	b := made(t, 25, most)
	for i := range 8 {
		b.set(word{0, i, of(1+i, all)})
		for n := range 8 {
			b.set(word{1 + n, i, of(9+i, all)}, word{9 + n, i, of(17+i, all)})
		}
	}
	return b
}

// threeHit is what is known of threePage in a space.
func threeHit(asid, f int, r api.Right) api.Hit {
	return api.Hit{Asid: asid, Page: threePage, Frame: f, Right: r}
}

// P15.1: O1, a walk of three entries that permit all; no other page has one.
func TestWalkOfThreeEntries(t *testing.T) {
	b := three(t, all, all, all)
	for page := range 512 {
		if page == threePage {
			b.walks(1, page, 9, every, true)
		} else {
			b.walks(1, page, 0, api.Right{}, false)
		}
	}
}

// P15.1: O1, the chapter's example: a root of zeros, each frame of the host's; nothing is found there.
func TestRootOfZeros(t *testing.T) {
	b := made(t, 5, 4)
	for root := range 5 {
		for _, page := range []int{0, 1, 8, 64, 300, 511, 512, -1} {
			b.none(root, page)
		}
	}
	b.knows()
}

// P15.1, P2: O1, an entry that has not P, at each level, whatever else its word says: nothing is found.
func TestNotThere(t *testing.T) {
	for _, v := range []uint64{0, w, all &^ p, ps, nx, a | d, 1 << 3, 1 << 62, of(9, 0), of(9, all&^p), of(900, all&^p), math.MaxUint64 &^ p} {
		for _, at := range threeAts() {
			b := three(t, all, all, all)
			b.set(word{at.G, at.I, v})
			b.none(1, threePage)
			b.knows()
		}
	}
}

// P15.1: O1, an entry of the level 3, or 2, that tells a frame that there is not: nothing is found. The last one's frame is told, whether there is one or not.
func TestFrameThatThereIsNot(t *testing.T) {
	for _, f := range []int{12, 13, 16, 24, 63, 64, 255, 256, 257, 1 << 12, 1 << 16, 1<<20 - 12, 1<<20 - 1} {
		for n, at := range threeAts() {
			b := three(t, all, all, all)
			b.set(word{at.G, at.I, of(f, all)})
			if n < 2 {
				b.none(1, threePage)
				continue
			}
			b.walks(1, threePage, f, every, true)
			b.takes(1, 0, threePage, api.Store, true, f)
			b.finds(1, 1, threePage, true)
			b.knows(threeHit(0, f, every), threeHit(1, f, every))
		}
	}
}

// P15.1: O1, the last one of the host's frames, and the first one, may be a table of each level, and the page's own.
func TestFirstAndLastFrame(t *testing.T) {
	for _, f := range []int{0, 255} {
		for n := range 4 {
			l := []int{3, 4, 5, 6}
			l[n] = f
			b := made(t, 256, 1, word{l[0], 1, of(l[1], all)}, word{l[1], 2, of(l[2], p)}, word{l[2], 3, of(l[3], all)})
			b.walks(l[0], 64+16+3, l[3], api.Right{X: true}, true)
			b.takes(l[0], 0, 64+16+3, api.Exec, false, l[3])
		}
	}
}

// P15.1, P1: O1, a root that there is not, below 0 and beyond the last: nothing is found.
func TestRootThatThereIsNot(t *testing.T) {
	b := three(t, all, all, all)
	for _, root := range append([]int{-12, -11, 11, 12, 13, 23, 24, 1 - 12, 1 + 12, 1 - 256, 1 + 256, 1 + 1<<20}, odd...) {
		if root != 1 {
			b.none(root, threePage)
		}
	}
	for _, root := range []int{-1, 1, 2, 255, 256, math.MinInt, math.MaxInt} {
		made(t, 1, 1, word{0, 0, of(0, all)}).none(root, 0)
	}
	b.knows()
	b.walks(1, threePage, 9, every, true)
}

// P15.1: O1, a right that one entry of three alone withholds, W, U or X, whichever entry it is.
func TestOneWithholdsARight(t *testing.T) {
	for n := range 3 {
		for _, c := range []struct {
			bits uint64
			r    api.Right
		}{{all &^ w, api.Right{U: true, X: true}}, {all &^ u, api.Right{W: true, X: true}}, {all | nx, api.Right{W: true, U: true}}} {
			bits := []uint64{all, all, all}
			bits[n] = c.bits
			b := three(t, bits...)
			b.walks(1, threePage, 9, c.r, true)
			for _, kind := range kinds {
				for _, user := range users {
					b.x.All()
					b.p.hits = nil
					if !c.r.U && user || !c.r.W && kind == api.Store || !c.r.X && kind == api.Exec {
						b.takesNone(1, 0, threePage, kind, user)
						b.knows()
					} else {
						b.takes(1, 0, threePage, kind, user, 9)
						b.knows(threeHit(0, 9, c.r))
					}
				}
			}
		}
	}
}

// P15.1: O1, the rights are what all three entries permit: each of them permits any.
func TestRightsOfThreeEntries(t *testing.T) {
	for _, r := range rights {
		for _, s := range rights {
			for _, q := range rights {
				b := three(t, bitsOf(r), bitsOf(s), bitsOf(q))
				b.walks(1, threePage, 9, api.Right{W: r.W && s.W && q.W, U: r.U && s.U && q.U, X: r.X && s.X && q.X}, true)
			}
		}
	}
}

// P15.1: O1, what an entry says beside its frame, P, W, U and NX, tells nothing, at each level: A, D, PS, and bits that no entry has.
func TestBitsThatTellNothing(t *testing.T) {
	l := []uint64{a, d, ps, a | d, a | d | ps, math.MaxUint64 &^ (p | w | u | nx | 0xfffff000)}
	for n := range 64 {
		if v := uint64(1) << n; v&(p|w|u|nx|0xfffff000) == 0 {
			l = append(l, v)
		}
	}
	for _, v := range l {
		for n := range 3 {
			bits := []uint64{all, all, all}
			bits[n] |= v
			b := three(t, bits...)
			b.walks(1, threePage, 9, every, true)
			b.takes(1, 0, threePage, api.Store, true, 9)
			b.finds(1, 1, threePage, true)
			b.knows(threeHit(0, 9, every), threeHit(1, 9, every))
		}
	}
}

// P15.1: O1, each page has its own places, the pages 0 and 511 among them; its frame is that of its own last entry.
func TestEachPage(t *testing.T) {
	b := eachPage(t, 512)
	for page := range 512 {
		b.walks(0, page, 17+page%8, every, true)
	}
	for page := range 512 {
		for level := 1; level <= 3; level++ {
			b := made(t, 4, 1)
			for i, n := range []int{page / 64, page / 8 % 8, page % 8} {
				b.set(word{i, n, of(i+1, all)})
			}
			b.walks(0, page, 3, every, true)
			b.walks(0, page^1<<(3*level-3), 0, api.Right{}, false)
			b.walks(0, page^4<<(3*level-3), 0, api.Right{}, false)
		}
	}
}

// P15.1, P1: O1, a page below 0, or beyond the last, is the one that is the same modulo 512.
func TestPagesBeyond(t *testing.T) {
	b := eachPage(t, 512)
	for i := range 8 {
		b.set(word{0, i, of(1+i, p|uint64(i)*w&all)}, word{16, i, of(100+i, p)}, word{9, i, of(200+i, p)})
	}
	for _, c := range []struct{ page, f int }{{0, 200}, {511, 107}, {512, 200}, {-1, 107}, {-512, 200}, {-511, 201}, {-513, 107}, {513, 201}, {1023, 107}, {1024, 200}, {math.MinInt, 200}, {math.MaxInt, 107}, {1 << 32, 200}, {1<<32 - 1, 107}} {
		if f, _, is := b.walk(0, c.page); f != c.f || !is {
			t.Errorf("Walk of the page %d is %d, %t, not %d", c.page, f, is, c.f)
		}
	}
	for _, page := range odd {
		b.walk(0, page)
	}
}

// P15.1: O1, entries that stand in one word: the root may be its own table, and the page's own frame.
func TestEntriesInTheSameWord(t *testing.T) {
	for i := range 8 {
		b := made(t, 3, 1, word{2, i, of(2, p|w)})
		b.walks(2, i*73, 2, api.Right{W: true, X: true}, true)
		b.takes(2, 0, i*73, api.Store, false, 2)
	}
	b := made(t, 2, 1, word{0, 3, of(1, all)}, word{1, 3, of(0, p|u)})
	b.walks(0, 3*73, 1, api.Right{U: true, X: true}, true)
	b.walks(1, 3*73, 0, api.Right{U: true, X: true}, true)
}

// P15.3: O2, with nothing known, an access takes what a walk tells just if that permits it, of all rights; what it takes is known then, and else nothing is.
func TestAccessOfWhatIsNotKnown(t *testing.T) {
	for _, r := range rights {
		for _, kind := range append(kinds, noKinds...) {
			for _, user := range users {
				b := three(t, all, bitsOf(r), all)
				if may(r, kind, user) {
					b.takes(1, 3, threePage, kind, user, 9)
					b.knows(threeHit(3, 9, r))
				} else {
					b.takesNone(1, 3, threePage, kind, user)
					b.knows()
				}
			}
		}
	}
}

// P15.1: O2, an access that is permitted to the system, and not to a user: of what is not known, and of what is.
func TestSystemAndUser(t *testing.T) {
	for n := range 3 {
		bits := []uint64{all, all, all}
		bits[n] = p | w
		for _, kind := range kinds {
			b := three(t, bits...)
			b.takesNone(1, 0, threePage, kind, true)
			b.knows()
			b.takes(1, 0, threePage, kind, false, 9)
			b.knows(threeHit(0, 9, api.Right{W: true, X: true}))
			b.takesNone(1, 0, threePage, kind, true)
			b.knows()
		}
	}
}

// P15.3: O2, a hit whose rights permit the access serves, whatever the tables, and the root, are since; it stays where it stands.
func TestAHitServesThoughTablesChange(t *testing.T) {
	for _, r := range rights {
		for _, kind := range kinds {
			for _, user := range users {
				if !may(r, kind, user) {
					continue
				}
				for n, at := range threeAts() {
					for _, v := range []uint64{0, of(2, all), of(2, p|nx), of(900, all), of(9, all), math.MaxUint64} {
						b := three(t, all, all, bitsOf(r))
						b.takes(1, 0, threePage, api.Load, false, 9)
						b.put(api.Hit{Page: 1, Frame: 5})
						b.set(word{at.G, at.I, v})
						b.takes(1, 0, threePage, kind, user, 9)
						b.takes([]int{0, 12, -1}[n], 0, threePage, kind, user, 9)
						b.knows(threeHit(0, 9, r), api.Hit{Page: 1, Frame: 5})
					}
				}
			}
		}
	}
}

// P15.3: O2, Find and Access by turns: what a Find has found serves an Access, whatever the tables are since.
func TestWhatAFindHasFoundServes(t *testing.T) {
	b := three(t, all, p|u, all)
	b.finds(1, 0, threePage, true)
	b.set(word{7, 6, of(3, all)}, word{4, 3, of(7, all)})
	b.takes(1, 0, threePage, api.Exec, true, 9)
	b.finds(1, 0, threePage, false)
	b.takes(1, 0, threePage, api.Store, true, 3)
	b.knows(threeHit(0, 3, every))
}

// P15.1: O2, a hit whose rights do not permit the access is dropped; a walk that permits it has another one be known, as the last one.
func TestAHitThatDoesNotServe(t *testing.T) {
	other := api.Hit{Asid: 0, Page: 1, Frame: 5}
	for _, r := range rights {
		for _, s := range rights {
			for _, kind := range kinds {
				for _, user := range users {
					if may(r, kind, user) {
						continue
					}
					b := three(t, all, all, bitsOf(r))
					b.finds(1, 0, threePage, true)
					b.put(other)
					b.knows(threeHit(0, 9, r), other)
					b.set(word{7, 6, of(10, bitsOf(s))})
					if may(s, kind, user) {
						b.takes(1, 0, threePage, kind, user, 10)
						b.knows(other, threeHit(0, 10, s))
					} else {
						b.takesNone(1, 0, threePage, kind, user)
						b.knows(other)
					}
				}
			}
		}
	}
}

// P15.1: O2, a hit that does not serve is dropped, too, where there is no walk, by each level's entry, and by a root that there is not.
func TestAHitThatDoesNotServeWithNoWalk(t *testing.T) {
	other := api.Hit{Asid: 0, Page: 1, Frame: 5}
	for _, at := range threeAts() {
		for _, root := range []int{1, 0, 12, -1, math.MinInt, math.MaxInt} {
			b := three(t, p, p, p)
			b.finds(1, 0, threePage, true)
			b.put(other)
			b.set(word{at.G, at.I, 0})
			b.takesNone(root, 0, threePage, api.Store, false)
			b.knows(other)
			b.takesNone(root, 0, threePage, api.Load, false)
			b.knows(other)
		}
	}
}

// P15.1: O2, a kind that is none is never permitted: what is known of the page is dropped, and nothing is put.
func TestKindsThatAreNone(t *testing.T) {
	for _, kind := range noKinds {
		for _, user := range users {
			b := three(t, all, all, all)
			b.takesNone(1, 0, threePage, kind, user)
			b.finds(1, 0, threePage, true)
			b.finds(1, 1, threePage, true)
			b.takesNone(1, 0, threePage, kind, user)
			b.knows(threeHit(1, 9, every))
		}
	}
}

// P15.1: O2, a hit of the same page in another space serves nothing here, and is not touched.
func TestAnotherSpace(t *testing.T) {
	b := three(t, all, all, p)
	b.takes(1, 2, threePage, api.Load, false, 9)
	b.set(word{7, 6, of(10, all)})
	for _, asid := range []int{0, 1, 3, -2, 2 + 8, 2 + 256, 2 + 512, 2 + 1<<32, math.MinInt, math.MaxInt} {
		b.takes(1, asid, threePage, api.Load, false, 10)
		b.takes(1, 2, threePage, api.Load, false, 9)
		b.x.Drop(asid, threePage)
		b.p.drop(asid, threePage)
		b.finds(1, asid, threePage, true)
		b.finds(1, 2, threePage, false)
		b.takesNone(1, asid, threePage, -1, false)
		b.knows(threeHit(2, 9, api.Right{X: true}))
	}
	b.takes(1, 2, threePage, api.Store, false, 10)
	b.knows(threeHit(2, 10, every))
}

// P15.1, P1: O2, spaces of any number: each has hits of its own.
func TestSpacesOfAnyNumber(t *testing.T) {
	b := made(t, 12, 512, word{1, 5, of(4, all)}, word{4, 3, of(7, all)})
	for n, asid := range odd {
		b.set(word{7, 6, of(n, all)})
		b.takes(1, asid, threePage, api.Load, true, n)
		b.finds(1, asid, threePage, false)
	}
	for n, asid := range odd {
		b.takes(1, asid, threePage, api.Exec, true, n)
	}
	if b.x.Many() != len(odd) {
		t.Errorf("%d are known", b.x.Many())
	}
}

// P15.1: O2, a page of 0, 511, 512, -1, -512, and others, is known by the number modulo 512, from 0 on, whatever number it was asked by.
func TestPagesAreKnownByTheirNumber(t *testing.T) {
	for _, c := range []struct{ page, known, f int }{{0, 0, 17}, {511, 511, 24}, {512, 0, 17}, {-1, 511, 24}, {-512, 0, 17}, {-511, 1, 18}, {-513, 511, 24}, {513, 1, 18}, {1023, 511, 24}, {math.MinInt, 0, 17}, {math.MinInt + 1, 1, 18}, {math.MaxInt, 511, 24}, {1 << 32, 0, 17}, {1<<32 + 300, 300, 21}} {
		b := eachPage(t, 4)
		b.takes(0, 6, c.page, api.Load, true, c.f)
		b.knows(api.Hit{Asid: 6, Page: c.known, Frame: c.f, Right: every})
		b = eachPage(t, 4)
		b.finds(0, 6, c.page, true)
		b.knows(api.Hit{Asid: 6, Page: c.known, Frame: c.f, Right: every})
	}
}

// P15.1, P15.3: O2, a page that is known by a number that differs by 512, or more of these, is known: it serves, is not found again, and is dropped.
func TestKnownByANumberThatDiffers(t *testing.T) {
	for _, page := range []int{0, 1, 13, 300, 511} {
		for _, by := range []int{-1 << 40, -1024, -512, 0, 512, 1024, 1 << 32, 1 << 40} {
			b := eachPage(t, 4)
			b.set(word{9 + page/8%8, page % 8, of(40, p)})
			b.takes(0, 0, page+by, api.Load, false, 40)
			b.set(word{9 + page/8%8, page % 8, of(50, p|w)})
			for _, then := range []int{-512, 512, by, 0, -by} {
				b.takes(0, 0, page+then, api.Exec, false, 40)
				b.finds(0, 0, page+then, false)
			}
			b.knows(api.Hit{Page: page, Frame: 40, Right: api.Right{X: true}})
			b.takesNone(0, 0, page-by, api.Store, true)
			b.knows()
			b.finds(0, 0, page-by, true)
			b.takes(0, 0, page+by, api.Store, false, 50)
			b.knows(api.Hit{Page: page, Frame: 50, Right: api.Right{W: true, X: true}})
		}
	}
}

// P15.1, P15.3: O2, a hit that somebody else had known serves as it is, also one that is Dirty, whatever the tables say; and goes as others do.
func TestHitsOfOthers(t *testing.T) {
	for _, dirty := range users {
		for _, r := range rights {
			for _, kind := range kinds {
				for _, user := range users {
					b := three(t, all, all, all)
					h := api.Hit{Asid: 2, Page: threePage, Frame: 77, Right: r, Dirty: dirty}
					b.put(h)
					b.finds(1, 2, threePage, false)
					b.finds(0, 2, threePage, false)
					b.knows(h)
					if may(r, kind, user) {
						b.takes(0, 2, threePage, kind, user, 77)
						b.knows(h)
					} else {
						b.takes(1, 2, threePage, kind, user, 9)
						b.knows(threeHit(2, 9, every))
					}
				}
			}
		}
	}
	b := three(t, all, all, all)
	b.put(api.Hit{Asid: 2, Page: threePage, Frame: math.MinInt, Right: every})
	b.takes(1, 2, threePage, api.Exec, true, math.MinInt)
}

// P15.1: O2, a hit that is all zero is one: it serves the system's Load, with the frame 0.
func TestAZeroHit(t *testing.T) {
	b := eachPage(t, 2)
	b.put(api.Hit{})
	b.finds(0, 0, 0, false)
	b.takes(0, 0, 0, api.Load, false, 0)
	b.knows(api.Hit{})
	b.takes(0, 0, 0, api.Load, true, 17)
	b.knows(api.Hit{Frame: 17, Right: every})
}

// P15.1: O2, a walk to the frame 0 is one, as each other: it is taken, found and known, though all its rights are withheld.
func TestAWalkToTheFrameZero(t *testing.T) {
	b := made(t, 1, 2, word{0, 0, of(0, p|nx)})
	b.walks(0, 0, 0, api.Right{}, true)
	b.takes(0, 0, 0, api.Load, false, 0)
	b.finds(0, 1, 0, true)
	b.knows(api.Hit{}, api.Hit{Asid: 1})
	b.takesNone(0, 0, 0, api.Exec, false)
	b.knows(api.Hit{Asid: 1})
}

// P15.1: O2, Find of a page that is not known, of one that is, of one that has no walk; a second one is false, and changes nothing.
func TestFind(t *testing.T) {
	for _, r := range rights {
		b := three(t, bitsOf(r), all, all)
		b.finds(1, 4, threePage, true)
		b.knows(threeHit(4, 9, r))
		b.put(api.Hit{Asid: 4, Page: 3, Frame: 1})
		b.finds(1, 4, threePage, false)
		b.set(word{7, 6, of(2, all)})
		b.finds(1, 4, threePage, false)
		b.finds(0, 4, threePage, false)
		b.finds(-1, 4, threePage, false)
		b.finds(1, 4, threePage+1, false)
		b.finds(1, 4, threePage-8, false)
		b.finds(1, 4, threePage-64, false)
		b.knows(threeHit(4, 9, r), api.Hit{Asid: 4, Page: 3, Frame: 1})
		b.x.Drop(4, threePage)
		b.p.drop(4, threePage)
		b.finds(1, 4, threePage, true)
		b.knows(api.Hit{Asid: 4, Page: 3, Frame: 1}, threeHit(4, 2, r))
	}
}

// full are eachPage's, that know as many pages as may be: those from 0 on, of the space 0.
func full(t *testing.T, most int) both {
	t.Helper()
	b := eachPage(t, most)
	for page := range most {
		b.finds(0, 0, page, true)
	}
	if b.x.Many() != most {
		t.Fatalf("%d are known, not %d", b.x.Many(), most)
	}
	return b
}

// P15.1: O2, a TLB that is full: what is put has the first one go, by an Access as by a Find.
func TestAFullTlb(t *testing.T) {
	for _, most := range []int{1, 2, 3, 8, 64, 511} {
		h := api.Hit{Asid: 0, Page: most, Frame: 17 + most%8, Right: every}
		b := full(t, most)
		was := b.x.List()
		b.takes(0, 0, most, api.Load, true, h.Frame)
		b.knows(append(was[1:], h)...)
		b = full(t, most)
		b.finds(0, 0, most, true)
		b.knows(append(was[1:], h)...)
		b.takes(0, 0, 0, api.Load, true, 17)
		b.finds(0, 0, 1, true)
	}
}

// P15.1: O2, a TLB that is full: a hit that serves has none go, and is not the last one for it; nor has what finds nothing one go.
func TestAFullTlbStays(t *testing.T) {
	for _, most := range []int{1, 2, 3, 8, 64, 511} {
		b := full(t, most)
		was := b.x.List()
		for _, page := range []int{0, most / 2, most - 1} {
			b.takes(0, 0, page, api.Store, true, 17+page%8)
			b.takes(0, 0, page-512, api.Exec, true, 17+page%8)
			b.finds(0, 0, page, false)
			b.takesNone(25, 1, page, api.Load, false)
			b.finds(25, 1, page, false)
			b.takesNone(0, 1, page, 3, false)
		}
		b.takesNone(-1, 0, most, api.Load, false)
		b.finds(-1, 0, most, false)
		b.knows(was...)
	}
}

// P15.1: O2, a TLB that is full: a hit that does not serve has none but itself go, and what is put instead is the last one.
func TestAFullTlbWithAHitThatDoesNotServe(t *testing.T) {
	for _, most := range []int{1, 2, 3, 8, 64, 512} {
		for _, page := range []int{0, most / 2, most - 1} {
			for _, is := range users {
				b := full(t, most)
				b.put(api.Hit{Page: page, Frame: 99})
				want := b.x.List()
				if !slices.ContainsFunc(want, func(h api.Hit) bool { return h.Frame == 99 }) || len(want) != most {
					t.Fatalf("known is %v", want)
				}
				want = slices.DeleteFunc(want, func(h api.Hit) bool { return h.Page == page })
				if is {
					b.takes(0, 0, page, api.Store, true, 17+page%8)
					want = append(want, api.Hit{Page: page, Frame: 17 + page%8, Right: every})
				} else {
					b.takesNone(25, 0, page, api.Store, true)
				}
				b.knows(want...)
			}
		}
	}
}

// P15.1: O1, what is known is known by the TLB that was handed in: whoever has it forget a page has the machine forget it, and the machine tells what that knows.
func TestTheTlbIsTheOneThatWasHandedIn(t *testing.T) {
	for n, forget := range []func(b both){
		func(b both) { b.x.Drop(2, threePage) },
		func(b both) { b.x.Flush(2) },
		func(b both) { b.x.All() },
		func(b both) { b.x.Pick(0) },
		func(b both) { b.m.Drop(2, threePage) },
		func(b both) { b.m.Flush(2) },
		func(b both) { b.m.All() },
		func(b both) { b.m.Pick(-1) },
	} {
		b := three(t, all, all, all)
		b.takes(1, 2, threePage, api.Load, true, 9)
		b.set(word{7, 6, of(3, all)})
		b.takes(1, 2, threePage, api.Load, true, 9)
		if h, is := b.m.Get(2, threePage); !is || h != threeHit(2, 9, every) || b.m.Many() != 1 || !slices.Equal(b.m.List(), b.x.List()) {
			t.Errorf("%d: the machine knows %v", n, b.m.List())
		}
		forget(b)
		b.p.hits = nil
		b.takes(1, 2, threePage, api.Load, true, 3)
		b.knows(threeHit(2, 3, every))
	}
}

// P15.1: O1, the memory is the one that was handed in: what is written to it later is walked.
func TestTheMemoryIsTheOneThatWasHandedIn(t *testing.T) {
	b := made(t, 12, 8)
	b.none(1, threePage)
	b.set(word{1, 5, of(4, all)}, word{4, 3, of(7, all)})
	b.none(1, threePage)
	b.set(word{7, 6, of(9, p|u)})
	b.walks(1, threePage, 9, api.Right{U: true, X: true}, true)
	b.h.Fill(7, []uint64{0, 0, 0, 0, 0, 0, of(8, all), 0})
	b.p.words[7] = [8]uint64{6: of(8, all)}
	b.walks(1, threePage, 8, every, true)
}

// P3: two machines of one TLB know the same; two of one memory, with a TLB each, know each its own.
func TestTwoMachines(t *testing.T) {
	b, o := three(t, all, all, all), three(t, all, all, all)
	o.set(word{7, 6, of(10, all)})
	one, two := mmu.New(o.h, b.x), mmu.New(b.h, o.x)
	b.takes(1, 0, threePage, api.Load, false, 9)
	if f, is := one.Access(1, 0, threePage, api.Load, false); f != 9 || !is || one.Find(1, 0, threePage) {
		t.Errorf("another machine of the TLB takes %d, %t", f, is)
	}
	if f, _, is := one.Walk(1, threePage); f != 10 || !is {
		t.Errorf("another memory's walk tells %d, %t", f, is)
	}
	if f, is := one.Access(1, 1, threePage, api.Load, false); f != 10 || !is {
		t.Errorf("another memory's page is %d, %t", f, is)
	}
	o.knows()
	if f, is := two.Access(1, 1, threePage, api.Load, false); f != 9 || !is {
		t.Errorf("another TLB's page is %d, %t", f, is)
	}
	o.knows(threeHit(1, 9, every))
	b.knows(threeHit(0, 9, every), threeHit(1, 10, every))
}

// numbers are pseudo-random, the same each time.
type numbers uint64

func (x *numbers) next(n int) int {
	*x = *x*6364136223846793005 + 1442695040888963407
	return int(uint64(*x) >> 33 % uint64(n))
}

// entry is a word of any kind, mostly one by which a walk goes on.
func (x *numbers) entry(frames int) uint64 {
	f := x.next(frames)
	v := uint64(all)
	for _, c := range []struct {
		bit uint64
		one int
	}{{p, 12}, {w, 5}, {u, 5}, {nx, 5}, {a, 2}, {d, 3}, {ps, 5}, {1 << 9, 9}, {1 << 40, 9}} {
		if x.next(c.one) == 0 {
			v ^= c.bit
		}
	}
	if x.next(20) == 0 {
		f += x.next(2 * frames)
	}
	return of(f, v)
}

// tables are both, of many kinds of entries.
func (x *numbers) tables(t *testing.T, frames, most int) both {
	t.Helper()
	b := made(t, frames, most)
	for f := range frames {
		for i := range 8 {
			b.set(word{f, i, x.entry(frames)})
		}
	}
	return b
}

// P15.1 to P15.3: O1, O2, of many tables, each page, with nothing known: a walk is as the plain one's, and an access takes what that tells just if it permits it.
func TestManyTables(t *testing.T) {
	x := numbers(7)
	many := map[bool]int{}
	for n := range 30 {
		frames := 1 + n*n%40
		b := x.tables(t, frames, 1)
		for page := range 512 {
			root, kind, user := x.next(frames+2)-1, x.next(4), x.next(2) == 1
			b.x.All()
			b.p.hits = nil
			f, r, is := b.walk(root, page)
			got, taken := b.access(root, 1, page, kind, user)
			if taken != (is && may(r, kind, user)) || taken && got != f {
				t.Fatalf("a walk tells %d, %v, %t, and an access takes %d, %t", f, r, is, got, taken)
			}
			many[taken]++
		}
	}
	if many[true] < 1000 || many[false] < 1000 {
		t.Errorf("the tables are not of many kinds: %v", many)
	}
}

// P15.3: what is known serves each access that its rights permit, till it is dropped, while all words of the memory become others.
func TestWhatIsKnownServesTillItIsDropped(t *testing.T) {
	x := numbers(5)
	for range 60 {
		b := x.tables(t, 12, 64)
		for range 40 {
			b.find(x.next(12), x.next(3), x.next(512))
		}
		known := b.x.List()
		if len(known) < 10 {
			t.Fatalf("just %d are known", len(known))
		}
		b.set(x.tables(t, 12, 1).words()...)
		for _, h := range known {
			for _, kind := range kinds {
				for _, user := range users {
					if may(h.Right, kind, user) {
						b.takes(x.next(14)-1, h.Asid, h.Page+512*(x.next(5)-2), kind, user, h.Frame)
					}
				}
			}
		}
		b.knows(known...)
		for n, h := range known {
			b.x.Drop(h.Asid, h.Page)
			b.p.drop(h.Asid, h.Page)
			b.knows(known[n+1:]...)
			if f, is := b.access(1, h.Asid, h.Page, api.Load, false); is {
				b.x.Drop(h.Asid, h.Page)
				b.p.drop(h.Asid, h.Page)
				b.walkTells(1, h.Page, f)
			}
		}
	}
}

// words are all of the memory's.
func (b both) words() []word {
	var l []word
	for f, v := range b.p.words {
		for i := range 8 {
			l = append(l, word{f, i, v[i]})
		}
	}
	return l
}

// walkTells tells where a walk tells another frame.
func (b both) walkTells(root, page, f int) {
	b.t.Helper()
	if got, _, is := b.walk(root, page); got != f || !is {
		b.t.Fatalf("Walk(%d, %d) is %d, %t, not %d", root, page, got, is, f)
	}
}

// bits are those of an entry that is there, of any kind.
func (x *numbers) bits() uint64 { return x.entry(1)&^0xfffff000 | p }

// P15.1: what a walk tells hangs on the three words that it reads alone: all others may be any.
func TestOtherWordsTellNothing(t *testing.T) {
	x := numbers(11)
	for range 300 {
		b := x.tables(t, 20, 1)
		b.set(word{1, 5, of(4, x.bits())}, word{4, 3, of(7, x.bits())}, word{7, 6, of(9, x.bits())})
		f, r, is := b.walk(1, threePage)
		for range 5 {
			for f := range 20 {
				for i := range 8 {
					if !slices.Contains(threeAts(), api.At{G: f, I: i}) {
						b.set(word{f, i, x.entry(20)})
					}
				}
			}
			b.walks(1, threePage, f, r, is)
		}
	}
}

// step does one of the calls on both, as the numbers say.
func (b both) step(x *numbers) {
	b.t.Helper()
	frames := len(b.p.words)
	root, asid, page := x.next(frames+2)-1, x.next(3), x.next(24)*73%512
	if x.next(4) == 0 {
		page += 512 * (x.next(5) - 2)
	}
	switch x.next(12) {
	case 0:
		b.set(word{x.next(frames), x.next(8), x.entry(frames)})
	case 1:
		b.walk(root, page)
	case 2, 3, 4:
		b.find(root, asid, page)
	case 5:
		b.x.Drop(asid, page)
		b.p.drop(asid, page)
	case 6:
		b.access(root, asid, page, x.next(6)-2, x.next(2) == 1)
	default:
		b.access(root, asid, page, x.next(3), x.next(3) == 1)
	}
}

// P15.1 to P15.3: long runs of all calls, with TLBs of many sizes, held against a plain machine at each step.
func TestLongRuns(t *testing.T) {
	x := numbers(9)
	for _, most := range []int{1, 2, 3, 5, 8, 64, 512} {
		for _, frames := range []int{1, 3, 8, 30} {
			b := x.tables(t, frames, most)
			for range 2000 {
				b.step(&x)
				b.same()
			}
		}
	}
}

// P15.1, P15.3: all short runs of few calls, of two pages and two spaces, in small TLBs.
func TestAllShortRuns(t *testing.T) {
	b := made(t, 2, 1, word{1, 0, of(1, all)}, word{1, 1, of(1, p|w)})
	calls := []func(){
		func() { b.access(1, 0, 0, api.Load, true) },
		func() { b.access(1, 1, 512, api.Store, false) },
		func() { b.access(1, 0, 9*8+1, api.Store, true) },
		func() { b.access(1, 0, 9*8+1, api.Load, false) },
		func() { b.access(0, 0, 0, api.Exec, true) },
		func() { b.access(1, 1, 0, 3, false) },
		func() { b.find(1, 0, 0) },
		func() { b.find(1, 1, 9*8+1-512) },
		func() { b.find(0, 1, 0) },
		func() { b.set(word{1, 0, of(0, p)}) },
		func() { b.set(word{1, 0, of(1, all)}) },
	}
	runs := len(calls) * len(calls) * len(calls) * len(calls)
	for most := 1; most <= 3; most++ {
		for run := range runs {
			b = made(t, 2, most, word{1, 0, of(1, all)}, word{1, 1, of(1, p|w)})
			for n, rest := 0, run; n < 4; n, rest = n+1, rest/len(calls) {
				calls[rest%len(calls)]()
			}
		}
	}
}

// P15.2: no call changes a word of the memory, nor tells a word as used, whatever it takes.
func TestNoWordIsChanged(t *testing.T) {
	b := eachPage(t, 64)
	was := b.words()
	for page := -512; page < 1024; page++ {
		b.m.Walk(0, page)
		for _, kind := range kinds {
			b.m.Access(0, page%3, page, kind, true)
		}
		b.m.Find(0, 7, page)
	}
	for _, x := range was {
		if v, _ := b.h.Get(x.f, x.i); v != x.v || v&(a|d) != 0 {
			t.Fatalf("the word %d, %d is %x, not %x", x.f, x.i, v, x.v)
		}
	}
}

// P3: machines of like memories and TLBs, to which the same is done, tell the same; a walk changes nothing between.
func TestTheSameIsTold(t *testing.T) {
	x, y, z := numbers(3), numbers(3), numbers(4)
	one, two := x.tables(t, 9, 5), y.tables(t, 9, 5)
	for range 3000 {
		one.step(&x)
		two.m.Walk(z.next(9), z.next(512))
		two.step(&y)
		if !one.h.Same(two.h) || !slices.Equal(one.x.List(), two.x.List()) {
			t.Fatal("they are not the same")
		}
	}
}

// P1: every call ends and none panics, at all arguments, and comes out as the chapter tells.
func TestNothingPanics(t *testing.T) {
	x := numbers(23)
	for _, frames := range []int{1, 5, 256} {
		b := x.tables(t, frames, 3)
		for i := range 8 {
			b.set(word{0, i, of(0, all)})
		}
		for _, root := range odd {
			for _, page := range odd {
				b.walk(root, page)
				for n, asid := range odd {
					kind, user := odd[x.next(len(odd))], n%2 == 0
					if x.next(2) == 0 {
						kind = x.next(3)
					}
					f, is := b.m.Access(root, asid, page, kind, user)
					if wantF, want := b.p.access(root, asid, page, kind, user); f != wantF || is != want {
						t.Fatalf("Access(%d, %d, %d, %d, %t) is %d, %t", root, asid, page, kind, user, f, is)
					}
					if is := b.m.Find(root, asid, page); is != b.p.find(root, asid, page) {
						t.Fatalf("Find(%d, %d, %d) is %t", root, asid, page, is)
					}
				}
				b.same()
			}
		}
	}
}
