package walk_test

import (
	"math"
	"slices"
	"testing"

	"silhouette/api"
	"silhouette/frame"
	"silhouette/gmap"
	"silhouette/guest"
	"silhouette/walk"
)

// odd are numbers about every edge.
var odd = []int{math.MinInt, math.MinInt + 1, math.MinInt32, -1 << 32, -1<<32 + 1, -513, -512, -511, -65, -64, -9, -8, -7, -2, -1, 0, 1, 2, 3, 4, 7, 8, 9, 15, 16, 63, 64, 65, 255, 256, 511, 512, 513, 1<<20 - 1, 1 << 20, math.MaxInt32, 1 << 32, 1<<32 + 1, 1 << 61, 1 << 62, math.MaxInt - 1, math.MaxInt}

// both are what a bool may be.
var both = []bool{false, true}

// kinds are those that there are, noKinds are none.
var (
	kinds   = []int{api.Load, api.Store, api.Exec}
	noKinds = []int{math.MinInt, math.MinInt + 1, math.MinInt + 2, -1 << 32, -256, -255, -254, -3, -2, -1, 3, 4, 5, 16, 256, 257, 258, 1 << 32, 1<<32 + 1, 1<<32 + 2, math.MaxInt - 1, math.MaxInt}
)

// Bits of entries, as the document tells them.
const (
	p  = 1
	w  = 2
	u  = 4
	a  = 32
	d  = 64
	ps = 128
	nx = 1 << 63
)

// of is a word of the frame g, that has those bits.
func of(g int, bits uint64) uint64 { return uint64(g)<<12 | bits }

// lacks are the bits of an entry that is there and permits all, but that.
func lacks(some api.Right) uint64 {
	bits := uint64(p | nx | w | u)
	if some.W {
		bits &^= w
	}
	if some.U {
		bits &^= u
	}
	if !some.X {
		bits &^= nx
	}
	return bits
}

// badBits are the bits that no entry has.
func badBits() []int {
	l := []int{3, 4, 8, 9, 10, 11}
	for n := 32; n < 63; n++ {
		l = append(l, n)
	}
	return l
}

// rights are all eight.
func rights() []api.Right {
	var l []api.Right
	for n := range 8 {
		l = append(l, api.Right{W: n&1 != 0, U: n&2 != 0, X: n&4 != 0})
	}
	return l
}

// word is one of a guest's, and what it is.
type word struct {
	g, i int
	v    uint64
}

// lying is a guest of so many frames of zeros, that lie backwards and with a hole in a host's, but for those words.
func lying(t *testing.T, frames int, l ...word) *guest.Mem {
	t.Helper()
	var at []int
	for g := range frames {
		at = append(at, 2*frames-1-2*g)
	}
	m := gmap.New(at, api.MaxHost)
	if m == nil {
		t.Fatalf("there is no map of %d frames", frames)
	}
	return set(t, guest.New(frame.New(2*frames), m), l...)
}

// set has words of m be others.
func set(t *testing.T, m *guest.Mem, l ...word) *guest.Mem {
	t.Helper()
	for _, x := range l {
		if !m.Set(x.g, x.i, x.v) {
			t.Fatalf("there is no word %d, %d", x.g, x.i)
		}
	}
	return m
}

// answer is what a walk answers.
type answer struct {
	p    api.Path
	how  int
	code int
}

func fault(code int) answer { return answer{how: api.Fault, code: code} }

func bus() answer { return answer{how: api.Bus} }

func (x answer) same(y answer) bool {
	return slices.Equal(x.p.Ats, y.p.Ats) && x.p.G == y.p.G && x.p.Right == y.p.Right && x.p.Large == y.p.Large && x.p.Dirty == y.p.Dirty && x.how == y.how && x.code == y.code
}

func asked(m *guest.Mem, root, page, kind int, user bool) answer {
	path, how, code := walk.Walk(m, root, page, kind, user)
	return answer{path, how, code}
}

// isWalk tells where a walk answers otherwise than want, or where it changes a word.
func isWalk(t *testing.T, m *guest.Mem, root, page, kind int, user bool, want answer) {
	t.Helper()
	was := m.All()
	got := asked(m, root, page, kind, user)
	if !got.same(want) {
		t.Fatalf("from %d, page %d, kind %d, user %t: %+v, not %+v", root, page, kind, user, got, want)
	}
	if !slices.Equal(m.All(), was) {
		t.Fatalf("from %d, page %d, kind %d, user %t: a walk has changed a word", root, page, kind, user)
	}
}

// code is that of a fault, as the chapter of the rights tells it.
func code(kind int, user, there, bad bool) int {
	n := 0
	if there {
		n++
	}
	if kind == 1 {
		n += 2
	}
	if user {
		n += 4
	}
	if there && bad {
		n += 8
	}
	if kind == 2 {
		n += 16
	}
	return n
}

// place is the page's in a table of a level: its three digits of 0 to 7, of the page modulo 512.
func place(page, level int) int {
	n := (page%512 + 512) % 512
	return [...]int{0, n % 8, n / 8 % 8, n / 64}[level]
}

// may says whether a kind of access is permitted.
func may(r api.Right, kind int, user bool) bool {
	return kind >= 0 && kind <= 2 && (!user || r.U) && (kind != 1 || r.W) && (kind != 2 || r.X)
}

// model is what a walk finds in those words, and the places of all that it reads.
func model(all []uint64, root, page, kind int, user bool) (answer, []api.At) {
	var x answer
	r := api.Right{W: true, U: true, X: true}
	g := root
	for level := 3; ; level-- {
		i := place(page, level)
		if g < 0 || g >= len(all)/8 {
			return bus(), x.p.Ats
		}
		v := all[8*g+i]
		x.p.Ats = append(x.p.Ats, api.At{G: g, I: i})
		if v%2 == 0 {
			return fault(code(kind, user, false, false)), x.p.Ats
		}
		rest := v &^ (p | w | u | a | d | ps | nx | 0xfffff000)
		g = int(v >> 12 & 0xfffff)
		large := v&ps != 0
		if rest != 0 || large && level != 2 || large && g%8 != 0 {
			return fault(code(kind, user, true, true)), x.p.Ats
		}
		r.W, r.U, r.X = r.W && v&w != 0, r.U && v&u != 0, r.X && v&nx == 0
		if large {
			g += place(page, 1)
		}
		if large || level == 1 {
			x.p.G, x.p.Right, x.p.Large, x.p.Dirty = g, r, large, v&d != 0
			break
		}
	}
	if !may(r, kind, user) {
		return fault(code(kind, user, true, false)), x.p.Ats
	}
	if g >= len(all)/8 {
		return bus(), x.p.Ats
	}
	return x, x.p.Ats
}

// numbers are pseudo-random, the same each time.
type numbers uint64

func (x *numbers) next(n int) int {
	*x = *x*6364136223846793005 + 1442695040888963407
	return int(uint64(*x) >> 33 % uint64(n))
}

// entry is a word of any kind, mostly one by which a walk goes on.
func (x *numbers) entry(frames int) uint64 {
	g := x.next(frames)
	v := uint64(p | w | u)
	for _, c := range []struct {
		bit uint64
		one int
	}{{p, 20}, {w, 5}, {u, 5}, {a, 2}, {d, 3}, {nx, 5}, {1 << 9, 50}, {1 << 40, 50}} {
		if x.next(c.one) == 0 {
			v ^= c.bit
		}
	}
	if x.next(4) == 0 {
		v |= ps
		g &^= 7
	}
	if x.next(20) == 0 {
		g += x.next(2 * frames)
	}
	return of(g, v)
}

// tables is a guest of many kinds of entries.
func (x *numbers) tables(t *testing.T, frames int) *guest.Mem {
	t.Helper()
	m := lying(t, frames)
	for g := range frames {
		for i := range 8 {
			set(t, m, word{g, i, x.entry(frames)})
		}
	}
	return m
}

// three is a guest of twelve frames: from the root 1, by the frames 4 and 7, to the page 5*64+3*8+6, that is the frame 9; each word's bits are those that are handed in.
func three(t *testing.T, bits ...uint64) *guest.Mem {
	t.Helper()
	return lying(t, 12, word{1, 5, of(4, bits[0])}, word{4, 3, of(7, bits[1])}, word{7, 6, of(9, bits[2])})
}

const threePage = 5*64 + 3*8 + 6

func threeAts() []api.At { return []api.At{{G: 1, I: 5}, {G: 4, I: 3}, {G: 7, I: 6}} }

// two is a guest of twenty frames: from the root 2, by the frame 3, to the large page that begins with 5*64+7*8, that is the frames 8 to 15.
func two(t *testing.T, bits ...uint64) *guest.Mem {
	t.Helper()
	return lying(t, 20, word{2, 5, of(3, bits[0])}, word{3, 7, of(8, bits[1]|ps)})
}

const twoPage = 5*64 + 7*8

func twoAts() []api.At { return []api.At{{G: 2, I: 5}, {G: 3, I: 7}} }

// P8.1: H1, a path of three entries, for each access.
func TestThreeEntries(t *testing.T) {
	m := three(t, p|w|u, p|w|u, p|w|u)
	for _, kind := range kinds {
		for _, user := range both {
			isWalk(t, m, 1, threePage, kind, user, answer{p: api.Path{Ats: threeAts(), G: 9, Right: api.Right{W: true, U: true, X: true}}})
		}
	}
}

// P8.1: H1, a path of two entries, that ends in a large page, for each access and each of its eight pages, the first and the last one among them.
func TestLargePage(t *testing.T) {
	m := two(t, p|w|u, p|w|u)
	for n := range 8 {
		for _, kind := range kinds {
			for _, user := range both {
				isWalk(t, m, 2, twoPage+n, kind, user, answer{p: api.Path{Ats: twoAts(), G: 8 + n, Right: api.Right{W: true, U: true, X: true}, Large: true}})
			}
		}
	}
	for _, page := range []int{twoPage - 1, twoPage + 8} {
		isWalk(t, m, 2, page, api.Load, false, fault(0))
	}
}

// P8.1, P8.3: H1, the rights of three entries are what all of them permit: each of three entries permits any, for each access.
func TestRightsOfThreeEntries(t *testing.T) {
	for _, r := range rights() {
		for _, s := range rights() {
			for _, q := range rights() {
				m := three(t, lacks(r), lacks(s), lacks(q))
				isRight(t, m, 1, threePage, answer{p: api.Path{Ats: threeAts(), G: 9, Right: api.Right{
					W: !r.W && !s.W && !q.W, U: !r.U && !s.U && !q.U, X: !r.X && !s.X && !q.X,
				}}})
			}
		}
	}
}

// P8.1, P8.3: H1, the same of two entries, the second one of a large page.
func TestRightsOfTwoEntries(t *testing.T) {
	for _, r := range rights() {
		for _, s := range rights() {
			m := two(t, lacks(r), lacks(s))
			isRight(t, m, 2, twoPage+4, answer{p: api.Path{Ats: twoAts(), G: 12, Large: true, Right: api.Right{
				W: !r.W && !s.W, U: !r.U && !s.U, X: !r.X && !s.X,
			}}})
		}
	}
}

// isRight tells where a walk answers otherwise than found, where its rights permit the access, or than a fault of what is there.
func isRight(t *testing.T, m *guest.Mem, root, page int, found answer) {
	t.Helper()
	for _, kind := range append([]int{-1, 3}, kinds...) {
		for _, user := range both {
			want := found
			if !may(found.p.Right, kind, user) {
				want = fault(code(kind, user, true, false))
			}
			isWalk(t, m, root, page, kind, user, want)
		}
	}
}

// P8.1, P8.3: H1, a right that one entry of three lacks, whichever it is: the codes, one by one.
func TestOneLacksARight(t *testing.T) {
	all := uint64(p | w | u)
	for n := range 3 {
		for _, c := range []struct {
			bits       uint64
			kind       int
			user       bool
			how, fault int
		}{
			{all &^ w, api.Store, false, api.Fault, 3}, {all &^ w, api.Store, true, api.Fault, 7}, {all &^ w, api.Load, true, api.Done, 0}, {all &^ w, api.Exec, true, api.Done, 0},
			{all &^ u, api.Load, true, api.Fault, 5}, {all &^ u, api.Store, true, api.Fault, 7}, {all &^ u, api.Exec, true, api.Fault, 21}, {all &^ u, api.Store, false, api.Done, 0}, {all &^ u, api.Exec, false, api.Done, 0},
			{all | nx, api.Exec, false, api.Fault, 17}, {all | nx, api.Exec, true, api.Fault, 21}, {all | nx, api.Load, true, api.Done, 0}, {all | nx, api.Store, true, api.Done, 0},
		} {
			bits := []uint64{all, all, all}
			bits[n] = c.bits
			want := fault(c.fault)
			if c.how == api.Done {
				want = answer{p: api.Path{Ats: threeAts(), G: 9, Right: api.Right{W: c.bits&w != 0, U: c.bits&u != 0, X: c.bits&nx == 0}}}
			}
			isWalk(t, three(t, bits...), 1, threePage, c.kind, c.user, want)
		}
	}
}

// P8.1: H1, Dirty is D of the last entry alone, Large is PS's; A tells nothing.
func TestDirty(t *testing.T) {
	for n := range 64 {
		is := func(i int) uint64 { return uint64(n >> i & 1) }
		bits := func(i int) uint64 { return p | is(2*i)*a | is(2*i+1)*d }
		m := three(t, bits(0), bits(1), bits(2))
		isWalk(t, m, 1, threePage, api.Load, false, answer{p: api.Path{Ats: threeAts(), G: 9, Right: api.Right{X: true}, Dirty: is(5) == 1}})
		m = two(t, bits(0), bits(1))
		isWalk(t, m, 2, twoPage, api.Load, false, answer{p: api.Path{Ats: twoAts(), G: 8, Right: api.Right{X: true}, Large: true, Dirty: is(3) == 1}})
	}
}

// P8.1: H1, the chapter's example: a root of zeros, each frame of a guest's, each access.
func TestRootOfZeros(t *testing.T) {
	m := lying(t, 5)
	for root := range 5 {
		for _, page := range []int{0, 1, 8, 64, 300, 511} {
			for _, c := range []struct {
				kind int
				user bool
				code int
			}{{api.Load, false, 0}, {api.Load, true, 4}, {api.Store, false, 2}, {api.Store, true, 6}, {api.Exec, false, 16}, {api.Exec, true, 20}, {-1, false, 0}, {3, true, 4}} {
				isWalk(t, m, root, page, c.kind, c.user, fault(c.code))
			}
		}
	}
}

// P8.1, P1: H1, a root that the guest has not, below 0 and beyond the last: Bus, whatever is asked for.
func TestRootThatTheGuestHasNot(t *testing.T) {
	m := three(t, p|w|u, p|w|u, p|w|u)
	for _, root := range append([]int{-12, -11, 11, 12, 13, 23, 24}, odd...) {
		if root >= 0 && root < 12 {
			continue
		}
		for _, kind := range append([]int{-1, 3}, kinds...) {
			for _, user := range both {
				isWalk(t, m, root, threePage, kind, user, bus())
			}
		}
	}
	isWalk(t, m, 11, threePage, api.Load, false, fault(0))
	isWalk(t, m, 0, threePage, api.Load, false, fault(0))
}

// P8.1, P2: H1, an entry that is not there, at each level, whatever else its word says: the code of what is not there.
func TestNotThere(t *testing.T) {
	all := uint64(p | w | u)
	words := []uint64{0, w, all &^ p, ps, nx, a | d, 1 << 3, 1 << 62, of(9, 0), of(900, all&^p), math.MaxUint64 &^ p}
	for _, v := range words {
		for n, at := range threeAts() {
			for _, kind := range append([]int{-1, 3}, kinds...) {
				for _, user := range both {
					m := set(t, three(t, all, all, all), word{at.G, at.I, v})
					isWalk(t, m, 1, threePage, kind, user, fault(code(kind, user, false, false)))
					if n < 2 {
						m = set(t, two(t, all, all), word{twoAts()[n].G, twoAts()[n].I, v})
						isWalk(t, m, 2, twoPage, kind, user, fault(code(kind, user, false, false)))
					}
				}
			}
		}
	}
}

// P8.1: H1, an entry that has a bit that none has, at each level: the code of what is bad.
func TestBadBits(t *testing.T) {
	all := uint64(p | w | u)
	for _, n := range badBits() {
		for _, kind := range append([]int{-1, 3}, kinds...) {
			for _, user := range both {
				want := fault(code(kind, user, true, true))
				for i := range 3 {
					bits := []uint64{all, all, all}
					bits[i] |= 1 << n
					isWalk(t, three(t, bits...), 1, threePage, kind, user, want)
				}
				isWalk(t, two(t, all|1<<n, all), 2, twoPage, kind, user, want)
				isWalk(t, two(t, all, all|1<<n), 2, twoPage, kind, user, want)
			}
		}
	}
}

// P8.1: H1, PS at the levels 3 and 1 is bad, of frames of any number; the codes of each access.
func TestLargeAtOtherLevels(t *testing.T) {
	all := uint64(p | w | u)
	for _, c := range []struct {
		kind int
		user bool
		code int
	}{{api.Load, false, 9}, {api.Load, true, 13}, {api.Store, false, 11}, {api.Store, true, 15}, {api.Exec, false, 25}, {api.Exec, true, 29}, {-1, false, 9}, {3, true, 13}} {
		for _, g := range []int{0, 1, 4, 7, 8, 9, 16, 1<<20 - 8, 1<<20 - 1} {
			for _, at := range []api.At{threeAts()[0], threeAts()[2]} {
				m := set(t, three(t, all, all, all), word{at.G, at.I, of(g, all|ps)})
				isWalk(t, m, 1, threePage, c.kind, c.user, fault(c.code))
			}
		}
	}
}

// P8.1: H1, PS at the level 2: a Frame that is no multiple of 8 is bad, all others are not.
func TestLargeOfAnyFrame(t *testing.T) {
	all := uint64(p | w | u)
	for g := range 32 {
		for n := range 8 {
			for _, user := range both {
				m := set(t, two(t, all, all), word{3, 7, of(g, all|ps)})
				want := bus()
				if g%8 != 0 {
					want = fault(code(api.Store, user, true, true))
				} else if g+n < 20 {
					want = answer{p: api.Path{Ats: twoAts(), G: g + n, Right: api.Right{W: true, U: true, X: true}, Large: true}}
				}
				isWalk(t, m, 2, twoPage+n, api.Store, user, want)
			}
		}
	}
	for _, g := range []int{1<<20 - 1, 1<<20 - 2, 1<<20 - 4, 1<<20 - 7, 1<<20 - 9, 1<<19 + 4} {
		isWalk(t, set(t, two(t, all, all), word{3, 7, of(g, all|ps)}), 2, twoPage, api.Load, false, fault(9))
	}
}

// P8.1: H1, an entry that tells a frame that the guest has not: Bus, of a table of each level, and of the path's own.
func TestFrameThatTheGuestHasNot(t *testing.T) {
	all := uint64(p | w | u)
	for _, g := range []int{12, 13, 16, 23, 24, 63, 64, 255, 256, 1 << 12, 1 << 16, 1<<20 - 1} {
		for _, at := range threeAts() {
			m := set(t, three(t, all, all, all), word{at.G, at.I, of(g, all)})
			for _, kind := range kinds {
				for _, user := range both {
					isWalk(t, m, 1, threePage, kind, user, bus())
				}
			}
		}
	}
	for g := range 12 {
		m := set(t, three(t, all, all, all), word{7, 6, of(g, all)})
		isWalk(t, m, 1, threePage, api.Store, true, answer{p: api.Path{Ats: threeAts(), G: g, Right: api.Right{W: true, U: true, X: true}}})
	}
}

// P8.1: H1, a large page of which the guest has the first frames alone: Bus, of the others.
func TestLargePageThatEndsBehindTheGuest(t *testing.T) {
	all := uint64(p | w | u)
	for frames := 4; frames < 20; frames++ {
		m := lying(t, frames, word{2, 5, of(3, all)}, word{3, 7, of(8, all|ps)}, word{3, 6, of(1<<20-8, all|ps)})
		for n := range 8 {
			want := bus()
			if 8+n < frames {
				want = answer{p: api.Path{Ats: twoAts(), G: 8 + n, Right: api.Right{W: true, U: true, X: true}, Large: true}}
			}
			isWalk(t, m, 2, twoPage+n, api.Store, true, want)
			isWalk(t, m, 2, 5*64+6*8+n, api.Store, true, bus())
		}
	}
}

// P8.1, P2: H1, where two things are wrong at once, the one that is named first, or that a walk comes to first, is told.
func TestWhatIsWrongFirst(t *testing.T) {
	all := uint64(p | w | u)
	for i, c := range []struct {
		root, mid, last uint64
		kind            int
		user            bool
		want            answer
	}{
		{of(4, all), of(7, all), of(9, all&^p|8|ps), api.Load, true, fault(4)},      // not there, and bad
		{of(4, all), of(7, all&^p|8), of(9, all), api.Load, true, fault(4)},         // the same, at the level 2
		{of(4, all&^p|ps), of(7, all), of(9, all), api.Store, false, fault(2)},      // the same, at the level 3
		{of(4, p), of(7, all), of(9, 0), api.Store, true, fault(6)},                 // a right lacks, and not there behind it
		{of(4, p), of(7, all), of(9, all|8), api.Store, true, fault(15)},            // a right lacks, and bad behind it
		{of(4, p), of(7, all|ps), of(9, all), api.Store, true, fault(15)},           // the same, at the level 2
		{of(4, p), of(900, all), of(9, all), api.Store, true, bus()},                // a right lacks, and no such table behind it
		{of(12, p), of(7, all), of(9, all), api.Store, true, bus()},                 // the same, at the level 3
		{of(4, all), of(7, all), of(900, p), api.Store, true, fault(7)},             // a right lacks, and no such frame of the path's
		{of(4, all), of(7, all|nx), of(12, all), api.Exec, false, fault(17)},        // the same, of an Exec
		{of(4, all), of(800, p|ps), of(9, all), api.Load, true, fault(5)},           // the same, of a large page
		{of(4, all), of(7, all), of(900, all), 3, true, fault(5)},                   // no kind, and no such frame
		{of(4, all), of(7, all), of(9, all), 3, true, fault(5)},                     // no kind
		{of(4, all), of(7, all), of(9, all), -1, false, fault(1)},                   // no kind
		{of(4, all), of(7, all), of(9, all|16), 3, true, fault(13)},                 // no kind, and bad
		{of(4, all), of(7, all), 0, -1, true, fault(4)},                             // no kind, and not there
		{of(900, all), of(7, all), of(9, all), 3, true, bus()},                      // no kind, and no such table
		{of(4, all|8), of(7, 0), of(9, all), api.Load, false, fault(9)},             // bad, and not there behind it
		{of(900, all|8), of(7, all), of(9, all), api.Load, false, fault(9)},         // bad, and no such table
		{of(900, all&^p), of(7, all), of(9, all), api.Load, false, fault(0)},        // not there, and no such table
		{of(900, all|ps), of(7, all), of(9, all), api.Load, false, fault(9)},        // large at the level 3, and no such frame
		{of(4, all), of(804, all|ps), of(9, all), api.Load, false, fault(9)},        // no multiple of 8, and no such frame
		{of(4, p), of(4, all|ps), of(9, all), api.Store, true, fault(15)},           // no multiple of 8, and a right lacks
		{of(4, all), of(7, all), of(900, all|ps), api.Load, false, fault(9)},        // large at the level 1, and no such frame
		{of(4, all), of(7, all), of(8, p|ps), api.Exec, true, fault(29)},            // large at the level 1, and a right lacks
		{of(4, 0), of(7, all|8), of(900, p), api.Exec, true, fault(20)},             // not there, and all else behind it
		{of(4, all), of(800, all|ps|1<<40), of(9, all), api.Load, false, fault(9)},  // bad, and no such frame
		{of(4, all), of(800, all&^p|ps), of(9, all), api.Exec, false, fault(16)},    // a large page that is not there
		{of(4, all), of(804, all&^p|ps|8), of(9, all), api.Exec, false, fault(16)},  // the same, and bad twice
		{of(4, all&^u), of(7, all|nx), of(9, all&^w), api.Exec, true, fault(21)},    // each lacks another right
		{of(4, all&^u), of(7, all|nx), of(9, all&^w), api.Store, false, fault(3)},   // the same
		{of(4, all&^u), of(7, all|nx), of(900, all&^w), api.Load, true, fault(5)},   // the same
		{of(4, all&^u), of(7, all|nx), of(900, all&^w), api.Load, false, bus()},     // the same, with all that is asked for
		{of(4, all&^u), of(7, all|nx), of(9, all|1<<62), api.Load, false, fault(9)}, // the same
	} {
		m := lying(t, 12, word{1, 5, c.root}, word{4, 3, c.mid}, word{7, 6, c.last})
		if got := asked(m, 1, threePage, c.kind, c.user); !got.same(c.want) {
			t.Errorf("%d: %+v, not %+v", i, got, c.want)
		}
	}
}

// P8.1, P1: H1, a kind that is none: a walk goes as any, and is a fault at its end, with no part of a Store or an Exec.
func TestKindsThatAreNone(t *testing.T) {
	all := uint64(p | w | u)
	for _, kind := range noKinds {
		for n, user := range both {
			isWalk(t, three(t, all, all, all), 1, threePage, kind, user, fault(1+4*n))
			isWalk(t, two(t, all, all), 2, twoPage, kind, user, fault(1+4*n))
			isWalk(t, three(t, all, all, 0), 1, threePage, kind, user, fault(4*n))
			isWalk(t, three(t, all, all|ps, all), 1, threePage, kind, user, fault(9+4*n))
			isWalk(t, three(t, all, all, all), 12, threePage, kind, user, bus())
		}
	}
}

// every is a guest in which each page has a path: from the root 0, by the frames 1 to 8, and 9 to 16, to the frames 17 to 24; the entry at a place i goes on to the i-th of these, so that each page's places tell it.
func every(t *testing.T) *guest.Mem {
	t.Helper()
	m := lying(t, 25)
	for i := range 8 {
		set(t, m, word{0, i, of(1+i, p)})
		for n := range 8 {
			set(t, m, word{1 + n, i, of(9+i, p)}, word{9 + n, i, of(17+i, p)})
		}
	}
	return m
}

// P8.1: H1, each page has its own places, the pages 0 and 511 among them.
func TestEachPage(t *testing.T) {
	m := every(t)
	for page := range 512 {
		i, j, k := page/64, page/8%8, page%8
		isWalk(t, m, 0, page, api.Exec, false, answer{p: api.Path{Ats: []api.At{{G: 0, I: i}, {G: 1 + i, I: j}, {G: 9 + j, I: k}}, G: 17 + k, Right: api.Right{X: true}}})
	}
	isWalk(t, m, 0, 0, api.Load, false, answer{p: api.Path{Ats: []api.At{{G: 0, I: 0}, {G: 1, I: 0}, {G: 9, I: 0}}, G: 17, Right: api.Right{X: true}}})
	isWalk(t, m, 0, 511, api.Load, false, answer{p: api.Path{Ats: []api.At{{G: 0, I: 7}, {G: 8, I: 7}, {G: 16, I: 7}}, G: 24, Right: api.Right{X: true}}})
}

// P8.1, P1: H1, a page below 0, or beyond the last, is the one that is the same modulo 512.
func TestPagesBeyond(t *testing.T) {
	m := every(t)
	isWalk(t, m, 0, -1, api.Load, false, asked(m, 0, 511, api.Load, false))
	isWalk(t, m, 0, 512, api.Load, false, asked(m, 0, 0, api.Load, false))
	isWalk(t, m, 0, -512, api.Load, false, asked(m, 0, 0, api.Load, false))
	isWalk(t, m, 0, math.MinInt, api.Load, false, asked(m, 0, 0, api.Load, false))
	isWalk(t, m, 0, math.MaxInt, api.Load, false, asked(m, 0, 511, api.Load, false))
	for _, page := range odd {
		want, _ := model(m.All(), 0, page, api.Load, false)
		isWalk(t, m, 0, page, api.Load, false, want)
		large := two(t, p, p)
		want, _ = model(large.All(), 2, page, api.Load, false)
		isWalk(t, large, 2, page, api.Load, false, want)
	}
	large := two(t, p, p)
	isWalk(t, large, 2, twoPage+7-512, api.Load, false, answer{p: api.Path{Ats: twoAts(), G: 15, Right: api.Right{X: true}, Large: true}})
}

// P8.1: H1, entries that stand in the same word: the root may be its own table, and the page's own frame.
func TestEntriesInTheSameWord(t *testing.T) {
	for i := range 8 {
		m := lying(t, 3, word{2, i, of(2, p|w|d)})
		page := i * 73
		at := api.At{G: 2, I: i}
		isWalk(t, m, 2, page, api.Store, false, answer{p: api.Path{Ats: []api.At{at, at, at}, G: 2, Right: api.Right{W: true, X: true}, Dirty: true}})
		isWalk(t, m, 2, page, api.Load, true, fault(5))
	}
	m := lying(t, 9, word{0, 1, of(0, p)}, word{0, 2, of(0, p|ps)}, word{0, 3, of(1, p)}, word{1, 3, of(0, p)})
	isWalk(t, m, 0, 1*64+2*8+5, api.Load, false, answer{p: api.Path{Ats: []api.At{{G: 0, I: 1}, {G: 0, I: 2}}, G: 5, Right: api.Right{X: true}, Large: true}})
	isWalk(t, m, 0, 3*64+3*8+3, api.Load, false, answer{p: api.Path{Ats: []api.At{{G: 0, I: 3}, {G: 1, I: 3}, {G: 0, I: 3}}, G: 1, Right: api.Right{X: true}}})
	isWalk(t, m, 0, 2*64, api.Load, false, fault(9))
	isWalk(t, m, 0, 1*64+1*8+2, api.Load, false, fault(9))
}

// P8.1 to P8.3: H1, of many tables, each page: as the model walks; nothing has changed.
func TestManyTables(t *testing.T) {
	x := numbers(7)
	hows, larges := map[int]int{}, 0
	for n := range 60 {
		frames := 1 + n
		m := x.tables(t, frames)
		all := m.All()
		for page := range 512 {
			root, kind, user := x.next(frames+2)-1, x.next(4), x.next(2) == 1
			want, _ := model(all, root, page, kind, user)
			got := asked(m, root, page, kind, user)
			if !got.same(want) {
				t.Fatalf("of %d frames, from %d, page %d, kind %d, user %t: %+v, not %+v", frames, root, page, kind, user, got, want)
			}
			hows[got.how]++
			if got.p.Large {
				larges++
			}
		}
		if !slices.Equal(m.All(), all) {
			t.Fatalf("of %d frames, walks have changed a word", frames)
		}
	}
	if hows[api.Done] < 1000 || hows[api.Fault] < 1000 || hows[api.Bus] < 1000 || larges < 300 {
		t.Errorf("the tables are not of many kinds: %v, %d", hows, larges)
	}
}

// P8.2: H1, what a walk finds is told by the words that it reads alone: all others may be any.
func TestOtherWordsTellNothing(t *testing.T) {
	x := numbers(11)
	for range 400 {
		m := x.tables(t, 20)
		root, page, kind, user := x.next(20), x.next(512), x.next(3), x.next(2) == 1
		want, read := model(m.All(), root, page, kind, user)
		for range 5 {
			for g := range 20 {
				for i := range 8 {
					if !slices.Contains(read, api.At{G: g, I: i}) {
						set(t, m, word{g, i, x.entry(20)})
					}
				}
			}
			isWalk(t, m, root, page, kind, user, want)
		}
	}
}

// P8.2, P3: H1, where the guest's frames lie in a host, and what else the host has, tells nothing.
func TestWhereFramesLieTellsNothing(t *testing.T) {
	x := numbers(13)
	for range 20 {
		m := x.tables(t, 16)
		h := frame.New(40)
		for f := range 40 {
			for i := range 8 {
				h.Set(f, i, x.entry(40))
			}
		}
		var l []int
		for g := range 16 {
			l = append(l, (g*7+3)%40)
		}
		o := guest.New(h, gmap.New(l, 40))
		if !o.Load(m.All()) {
			t.Fatal("Load is false")
		}
		for page := range 512 {
			for root := range 16 {
				isSame(t, m, o, root, page)
			}
		}
	}
}

// isSame tells where a walk of two memories isn't the same.
func isSame(t *testing.T, m, o *guest.Mem, root, page int) {
	t.Helper()
	kind, user := page%3, page%2 == 0
	if one, two := asked(m, root, page, kind, user), asked(o, root, page, kind, user); !one.same(two) {
		t.Fatalf("from %d, page %d: %+v and %+v", root, page, one, two)
	}
}

// P8.1: H1, H2, tables in frames that the host has not are none: Bus; and their words are none to Mark.
func TestTablesThatTheHostHasNot(t *testing.T) {
	m := guest.New(frame.New(4), gmap.New([]int{0, 1, 2, 3, 4, 200}, 256))
	set(t, m, word{0, 0, of(1, p)}, word{1, 0, of(2, p)}, word{2, 0, of(3, p)}, word{0, 1, of(4, p)}, word{0, 2, of(5, p)}, word{1, 1, of(4, p)}, word{1, 2, of(5, p)})
	for _, page := range []int{1 * 64, 2 * 64, 1 * 8, 2 * 8} {
		isWalk(t, m, 0, page, api.Load, false, bus())
	}
	isWalk(t, m, 4, 0, api.Load, false, bus())
	isWalk(t, m, 5, 0, api.Load, false, bus())
	isWalk(t, m, 0, 0, api.Load, false, answer{p: api.Path{Ats: []api.At{{G: 0}, {G: 1}, {G: 2}}, G: 3, Right: api.Right{X: true}}})
	was := m.All()
	path := api.Path{Ats: []api.At{{G: 0}, {G: 4}}}
	if walk.Mark(m, path, true) || walk.Marked(m, path) || !slices.Equal(m.All(), was) {
		t.Error("a word that the host has not is marked")
	}
}

// isMark tells where Mark answers otherwise than is, or where the words behind it are others than they were but for want; and then where Marked is not is.
func isMark(t *testing.T, m *guest.Mem, path api.Path, written, is bool, want ...word) {
	t.Helper()
	all := m.All()
	for _, x := range want {
		all[8*x.g+x.i] = x.v
	}
	if walk.Mark(m, path, written) != is {
		t.Fatalf("Mark of %v, %t is not %t", path.Ats, written, is)
	}
	if !slices.Equal(m.All(), all) {
		t.Fatalf("Mark of %v, %t has made the words %x, not %x", path.Ats, written, m.All(), all)
	}
	if walk.Marked(m, path) != is {
		t.Fatalf("Marked of %v is not %t", path.Ats, is)
	}
}

// P8.1: H2, what is Marked, not as written to: each word has A, and nothing else is changed; then as written to: D of the last one.
func TestMark(t *testing.T) {
	m := three(t, p|w|u, p, p|w|nx)
	path, _, _ := walk.Walk(m, 1, threePage, api.Load, false)
	if walk.Marked(m, path) {
		t.Error("Marked at first")
	}
	isMark(t, m, path, false, true, word{1, 5, of(4, p|w|u|a)}, word{4, 3, of(7, p|a)}, word{7, 6, of(9, p|w|nx|a)})
	isMark(t, m, path, false, true)
	isMark(t, m, path, true, true, word{7, 6, of(9, p|w|nx|a|d)})
	isMark(t, m, path, true, true)
	isMark(t, m, path, false, true)
	m = two(t, p|w|u, p|w|nx)
	path, _, _ = walk.Walk(m, 2, twoPage+7, api.Store, false)
	if walk.Marked(m, path) {
		t.Error("Marked at first")
	}
	isMark(t, m, path, true, true, word{2, 5, of(3, p|w|u|a)}, word{3, 7, of(8, p|w|nx|ps|a|d)})
	isMark(t, m, path, false, true)
}

// P8.1: H2, words that have A, or D, of any of three: Mark has them be no less; Marked asks for A of all, and for D of none.
func TestMarkOfSomeMarks(t *testing.T) {
	for n := range 64 {
		is := func(i int) uint64 { return uint64(n >> i & 1) }
		bits := func(i int) uint64 { return p | is(2*i)*a | is(2*i+1)*d }
		for _, written := range both {
			m := three(t, bits(0), bits(1), bits(2))
			path := api.Path{Ats: threeAts()}
			if walk.Marked(m, path) != (is(0)+is(2)+is(4) == 3) {
				t.Fatalf("%d: Marked", n)
			}
			last := bits(2) | a
			if written {
				last |= d
			}
			isMark(t, m, path, written, true, word{1, 5, of(4, bits(0)|a)}, word{4, 3, of(7, bits(1)|a)}, word{7, 6, of(9, last)})
		}
	}
}

// P8.1: H2, the words are marked whatever they say, and how many there are: Mark goes by the places alone, as does Marked.
func TestMarkOfAnyWords(t *testing.T) {
	values := []uint64{0, 1, 8, a, d, a | d, math.MaxUint64, math.MaxUint64 &^ a, math.MaxUint64 &^ d, 1 << 62, 1 << 33}
	for _, v := range values {
		for _, written := range both {
			m := lying(t, 4, word{3, 7, v}, word{0, 0, v})
			last := v | a
			if written {
				last |= d
			}
			isMark(t, m, api.Path{Ats: []api.At{{G: 3, I: 7}}, G: -9, Large: true, Dirty: !written}, written, true, word{3, 7, last})
			isMark(t, m, api.Path{Ats: []api.At{{G: 3, I: 7}, {G: 1, I: 1}, {G: 2, I: 2}, {G: 2, I: 3}, {G: 0, I: 0}}}, written, true,
				word{1, 1, a}, word{2, 2, a}, word{2, 3, a}, word{0, 0, last})
		}
	}
}

// P8.1: H2, entries that stand in the same word: it is written to if it is the last one's, and not by an entry ahead of that.
func TestMarkOfTheSameWord(t *testing.T) {
	at, other := api.At{G: 2, I: 4}, api.At{G: 1, I: 4}
	for _, c := range []struct {
		ats          []api.At
		written      bool
		one, another uint64
	}{
		{[]api.At{at, at, at}, false, a, 0}, {[]api.At{at, at, at}, true, a | d, 0},
		{[]api.At{at, other, at}, true, a | d, a}, {[]api.At{at, at, other}, true, a, a | d}, {[]api.At{other, at, at}, true, a | d, a},
		{[]api.At{at, other}, true, a, a | d}, {[]api.At{at, at}, true, a | d, 0}, {[]api.At{at, other, at}, false, a, a},
	} {
		m := lying(t, 3, word{2, 4, of(2, p)}, word{1, 4, of(1, p)})
		isMark(t, m, api.Path{Ats: c.ats}, c.written, true, word{2, 4, of(2, p|c.one)}, word{1, 4, of(1, p|c.another)})
	}
}

// P8.1, P2: H2, a path with a place that is no word, the first, the last or one between: false, and nothing has changed; nor is it Marked.
func TestMarkOfNoWord(t *testing.T) {
	none := []api.At{{G: 12, I: 0}, {G: -1, I: 0}, {G: 1, I: 8}, {G: 1, I: -1}, {G: 12, I: 8}, {G: 0, I: 96}, {G: 2, I: -8}}
	for _, g := range odd {
		for _, i := range odd {
			if g < 0 || g > 11 || i < 0 || i > 7 {
				none = append(none, api.At{G: g, I: i})
			}
		}
	}
	m, used := three(t, p, p, p), three(t, p|a, p|a, p|a)
	for _, at := range none {
		for n := range 4 {
			path := api.Path{Ats: slices.Insert(threeAts(), n, at), G: 9}
			for _, written := range both {
				isMark(t, m, path, written, false)
				isMark(t, used, path, written, false)
			}
		}
		isMark(t, m, api.Path{Ats: []api.At{at}}, true, false)
	}
}

// P8.1: H2, a zero path has no words: Mark of it changes nothing, and it is Marked; both are so of all of none.
func TestZeroPath(t *testing.T) {
	for _, m := range []*guest.Mem{lying(t, 1), three(t, p, p, p)} {
		for _, written := range both {
			isMark(t, m, api.Path{}, written, true)
			isMark(t, m, api.Path{Ats: []api.At{}, G: 0, Dirty: true}, written, true)
		}
	}
}

// P8.4: a walk behind a Mark finds the same, but that it is Dirty if it was, or if it was marked as written to.
func TestWalkBehindAMark(t *testing.T) {
	x := numbers(17)
	many := 0
	for range 3000 {
		m := x.tables(t, 20)
		root, page, kind, user, written := x.next(20), x.next(512), x.next(3), x.next(2) == 1, x.next(2) == 1
		got := asked(m, root, page, kind, user)
		if got.how != api.Done {
			continue
		}
		many++
		if !walk.Mark(m, got.p, written) || !walk.Marked(m, got.p) {
			t.Fatalf("Mark of %v", got.p)
		}
		got.p.Dirty = got.p.Dirty || written
		isWalk(t, m, root, page, kind, user, got)
	}
	if many < 200 {
		t.Errorf("only %d walks found a path", many)
	}
}

// P8.4: a walk behind a Mark, where all entries stand in one word, and of a large page.
func TestWalkBehindAMarkOfTheSameWord(t *testing.T) {
	m := lying(t, 9, word{2, 1, of(2, p|w)}, word{2, 3, of(0, p|w|ps)})
	for _, page := range []int{1*64 + 1*8 + 1, 1*64 + 3*8 + 6} {
		for _, written := range both {
			got := asked(m, 2, page, api.Store, false)
			if got.how != api.Done || !walk.Mark(m, got.p, written) {
				t.Fatalf("of %d: %+v", page, got)
			}
			got.p.Dirty = written
			isWalk(t, m, 2, page, api.Store, false, got)
		}
	}
}

// P8.3: the rights of a path are no more than what each of its entries permits; its frame is the guest's.
func TestWithin(t *testing.T) {
	x := numbers(19)
	for range 60 {
		frames := 8 + x.next(30)
		m := x.tables(t, frames)
		for page := range 512 {
			got := asked(m, x.next(frames), page, x.next(3), x.next(2) == 1)
			if got.p.G < 0 || got.p.G >= frames {
				t.Fatalf("of %d frames: %+v", frames, got)
			}
			for _, at := range got.p.Ats {
				v, _ := m.Get(at.G, at.I)
				if r := got.p.Right; r.W && v&w == 0 || r.U && v&u == 0 || r.X && v&nx != 0 {
					t.Fatalf("an entry of %x, of %+v", v, got)
				}
			}
		}
	}
}

// P3: what a walk answers is new memory, its spare room too: to write to it, or to append to it, changes nothing.
func TestPathIsNewMemory(t *testing.T) {
	m := two(t, p|w|u, p|w|u)
	for _, n := range []int{0, 7} {
		want := asked(m, 2, twoPage+n, api.Load, true)
		one, two := asked(m, 2, twoPage+n, api.Load, true), asked(m, 2, twoPage+n, api.Load, true)
		_ = append(one.p.Ats, api.At{G: 5, I: 5})
		l := one.p.Ats[:cap(one.p.Ats)]
		for i := range l {
			l[i] = api.At{G: 9, I: 9}
		}
		if !two.same(want) {
			t.Errorf("two paths share memory: %+v", two)
		}
		isWalk(t, m, 2, twoPage+n, api.Load, true, want)
	}
	path, _, _ := walk.Walk(m, 2, twoPage, api.Load, true)
	set(t, m, word{2, 5, 0}, word{3, 7, 0})
	if !slices.Equal(path.Ats, twoAts()) || path.G != 8 || !path.Right.W {
		t.Errorf("a path has become %+v", path)
	}
}

// P3: a path that is handed to Mark or Marked is not changed, nor its spare room, whether all of it are words or not.
func TestPathIsLeftAlone(t *testing.T) {
	for _, many := range []int{0, 1, 2, 3, 4, 5} {
		m := three(t, p, p, p)
		room := slices.Concat([]api.At{{G: 2, I: 2}}, threeAts(), []api.At{{G: 12, I: 8}, {G: 1, I: 5}, {G: 3, I: 3}})
		was := slices.Clone(room)
		path := api.Path{Ats: room[1 : 1+many], G: 9, Right: api.Right{W: true}, Large: true}
		kept := path
		for _, written := range both {
			if is := many < 4; walk.Mark(m, path, written) != is || walk.Marked(m, path) != is {
				t.Errorf("of %d places, Mark or Marked is not %t", many, is)
			}
		}
		if !slices.Equal(room, was) || path.G != kept.G || path.Right != kept.Right || path.Large != kept.Large || path.Dirty || len(path.Ats) != many {
			t.Errorf("a path of %d places has become %+v, %+v", many, path, room)
		}
	}
}

// P3: a path is not kept: what is written to it later changes no answer, and no word.
func TestPathIsNotKept(t *testing.T) {
	m := three(t, p, p, p)
	ats := threeAts()
	walk.Mark(m, api.Path{Ats: ats}, true)
	was := m.All()
	for i := range ats {
		ats[i] = api.At{G: 0, I: i}
	}
	isWalk(t, m, 1, threePage, api.Load, false, answer{p: api.Path{Ats: threeAts(), G: 9, Right: api.Right{X: true}, Dirty: true}})
	if walk.Marked(m, api.Path{Ats: ats}) || !walk.Marked(m, api.Path{Ats: threeAts()}) || !slices.Equal(m.All(), was) {
		t.Error("a path is kept")
	}
}

// P3: a walk and Marked change nothing: the same calls behind them answer the same.
func TestAskingChangesNothing(t *testing.T) {
	m := every(t)
	was := m.All()
	first := asked(m, 0, 77, api.Exec, false)
	for page := range 512 {
		got := asked(m, 0, page, page%4, page%2 == 0)
		walk.Marked(m, got.p)
		walk.Marked(m, api.Path{Ats: []api.At{{G: -1, I: page}}})
	}
	if !slices.Equal(m.All(), was) || !asked(m, 0, 77, api.Exec, false).same(first) || walk.Marked(m, first.p) {
		t.Error("asking has changed something")
	}
}

// P1: every call ends and none panics, at all arguments.
func TestNothingPanics(t *testing.T) {
	x := numbers(23)
	for _, frames := range []int{1, 5, 64} {
		m := x.tables(t, frames)
		all := m.All()
		for _, root := range odd {
			for _, page := range odd {
				for _, kind := range odd {
					user := (root^page^kind)&1 == 0
					want, _ := model(all, root, page, kind, user)
					if got := asked(m, root, page, kind, user); !got.same(want) {
						t.Fatalf("from %d, page %d, kind %d: %+v, not %+v", root, page, kind, got, want)
					}
				}
			}
		}
		for _, g := range odd {
			for _, i := range odd {
				is := g >= 0 && g < frames && i >= 0 && i < 8
				path := api.Path{Ats: slices.Repeat([]api.At{{G: g, I: i}}, 3), G: i}
				if walk.Marked(m, path) && !is || walk.Mark(m, path, i%2 == 0) != is || walk.Marked(m, path) != is {
					t.Fatalf("Mark of %d, %d is not %t", g, i, is)
				}
			}
		}
	}
}
