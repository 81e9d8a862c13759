package store_test

import (
	"math"
	"slices"
	"testing"

	"silhouette/api"
	"silhouette/frame"
	"silhouette/store"
)

// odd are numbers about every edge.
var odd = []int{math.MinInt, math.MinInt + 1, math.MinInt32, -1 << 32, -257, -256, -9, -8, -7, -3, -2, -1, 0, 1, 2, 3, 4, 5, 7, 8, 9, 15, 16, 17, 63, 64, 255, 256, 257, 1 << 20, math.MaxInt32, 1 << 32, 1<<32 + 1, 1<<32 + 4, 1 << 62, math.MaxInt - 1, math.MaxInt}

// rights are all that there are.
var rights = []api.Right{{}, {W: true}, {U: true}, {W: true, U: true}, {X: true}, {W: true, X: true}, {U: true, X: true}, {W: true, U: true, X: true}}

// plainPage is a page as the chapter tells it; of holds the host's frame that each slot's word is of.
type plainPage struct {
	frame int
	key   api.Key
	slots [8]api.Slot
	of    [8]int
}

// plain is a store as the chapter tells it, with the words that all of the host's frames are to have.
type plain struct {
	words [][8]uint64
	pages []*plainPage
	free  []int // the one that is taken next is the last one
}

// newPlain is one of no pages, of a memory whose words are as they are.
func newPlain(h *frame.Mem, first, many int) *plain {
	p := &plain{}
	for f := range h.Frames() {
		p.words = append(p.words, [8]uint64(h.Frame(f)))
	}
	for f := first + many - 1; f >= first; f-- {
		p.free = append(p.free, f)
	}
	return p
}

func (p *plain) page(f int) *plainPage {
	for _, x := range p.pages {
		if x.frame == f {
			return x
		}
	}
	return nil
}

func (p *plain) find(k api.Key) (int, bool) {
	for _, x := range p.pages {
		if x.key.G == k.G && x.key.Level == k.Level && x.key.Role == k.Role {
			return x.frame, true
		}
	}
	return 0, false
}

// rightKey: is a key right?
func rightKey(k api.Key) bool {
	switch k.Level {
	case 1:
		return k.Role == 0 || k.Role == 1 || k.Role == 2
	case 2, 3:
		return k.Role == 0
	}
	return false
}

func (p *plain) make(k api.Key) (int, bool) {
	if _, is := p.find(k); is || !rightKey(k) || len(p.free) == 0 {
		return 0, false
	}
	f := p.free[len(p.free)-1]
	p.free = p.free[:len(p.free)-1]
	p.pages = append(p.pages, &plainPage{frame: f, key: k})
	return f, true
}

func (p *plain) slot(f, i int) (*plainPage, bool) {
	x := p.page(f)
	return x, x != nil && i >= 0 && i <= 7
}

func (p *plain) child(f, i, c int, r api.Right) bool {
	x, is := p.slot(f, i)
	y := p.page(c)
	if !is || y == nil || y.key.Level+1 != x.key.Level {
		return false
	}
	x.slots[i], x.of[i] = api.Slot{Kind: 1, To: c, Right: r}, c
	return true
}

func (p *plain) leaf(f, i, g, h int, r api.Right) bool {
	x, is := p.slot(f, i)
	if !is || x.key.Level != 1 || h < 0 || h > len(p.words)-1 {
		return false
	}
	x.slots[i], x.of[i] = api.Slot{Kind: 2, To: g, Right: r}, h
	return true
}

func (p *plain) clear(f, i int) bool {
	x, is := p.slot(f, i)
	if !is || x.slots[i].Kind == 0 {
		return false
	}
	x.slots[i] = api.Slot{}
	return true
}

func (p *plain) drop(f int) bool {
	x := p.page(f)
	if x == nil {
		return false
	}
	for _, y := range p.pages {
		for i, z := range y.slots {
			if z.Kind == 1 && z.To == f {
				y.slots[i] = api.Slot{}
			}
		}
	}
	p.words[f] = [8]uint64{}
	var rest []*plainPage
	for _, y := range p.pages {
		if y != x {
			rest = append(rest, y)
		}
	}
	p.pages = rest
	p.free = append(p.free, f)
	return true
}

// told are the places of the slots of a kind that tell a number.
func (p *plain) told(kind, to int) []api.At {
	var l []api.At
	for _, x := range p.pages {
		for i, z := range x.slots {
			if z.Kind == kind && z.To == to {
				l = append(l, api.At{G: x.frame, I: i})
			}
		}
	}
	return l
}

// wordOf is the word of a slot, by the bits that the chapters tell.
func wordOf(z api.Slot, of int) uint64 {
	if z.Kind == 0 {
		return 0
	}
	v := uint64(of)*4096 + 1
	if z.Right.W {
		v += 2
	}
	if z.Right.U {
		v += 4
	}
	if !z.Right.X {
		v += 1 << 63
	}
	return v
}

// wordsAre tells where a word of the host's is not what it is to be.
func (p *plain) wordsAre(t *testing.T, h *frame.Mem) {
	t.Helper()
	for f, want := range p.words {
		if x := p.page(f); x != nil {
			for i, z := range x.slots {
				want[i] = wordOf(z, x.of[i])
			}
		}
		if [8]uint64(h.Frame(f)) != want {
			t.Fatalf("the frame %d is %x, not %x", f, h.Frame(f), want)
		}
	}
}

// pagesAre tells where a store has others than the plain one's pages, in order.
func (p *plain) pagesAre(t *testing.T, s *store.Store) {
	t.Helper()
	var all []int
	of := map[int][]int{0: nil, -1: nil, math.MaxInt: nil, math.MinInt: nil}
	for _, x := range p.pages {
		all = append(all, x.frame)
		if x.key.Role == 0 {
			of[x.key.G] = append(of[x.key.G], x.frame)
		} else if of[x.key.G] == nil {
			of[x.key.G] = nil
		}
		if k, is := s.Key(x.frame); k != x.key || !is {
			t.Fatalf("Key(%d) is %v, %t, not %v", x.frame, k, is, x.key)
		}
		if f, is := s.Find(x.key); f != x.frame || !is {
			t.Fatalf("Find(%v) is %d, %t, not %d", x.key, f, is, x.frame)
		}
		for i, z := range x.slots {
			if got, is := s.Slot(x.frame, i); got != z || !is {
				t.Fatalf("Slot(%d, %d) is %v, %t, not %v", x.frame, i, got, is, z)
			}
		}
		for _, i := range []int{-1, 8, math.MinInt, math.MaxInt} {
			if got, is := s.Slot(x.frame, i); got != (api.Slot{}) || is {
				t.Fatalf("Slot(%d, %d) of none is %v, %t", x.frame, i, got, is)
			}
		}
	}
	if l := s.All(); !slices.Equal(l, all) {
		t.Fatalf("All is %v, not %v", l, all)
	}
	for g, want := range of {
		if l := s.Of(g); !slices.Equal(l, want) {
			t.Fatalf("Of(%d) is %v, not %v", g, l, want)
		}
	}
	if s.Left() != len(p.free) {
		t.Fatalf("Left is %d, not %d", s.Left(), len(p.free))
	}
}

// linksAre tells where Parents and Leaves are others than the slots that tell it; of numbers that none tells, too.
func (p *plain) linksAre(t *testing.T, s *store.Store) {
	t.Helper()
	to := map[int]bool{-1: true, 0: true, len(p.words): true, math.MinInt: true, math.MaxInt: true}
	for f := range p.words {
		to[f] = true
	}
	for _, x := range p.pages {
		for i, z := range x.slots {
			to[z.To], to[x.of[i]] = true, true
		}
	}
	for n := range to {
		if l, want := s.Parents(n), p.told(1, n); !slices.Equal(l, want) {
			t.Fatalf("Parents(%d) are %v, not %v", n, l, want)
		}
		if l, want := s.Leaves(n), p.told(2, n); !slices.Equal(l, want) {
			t.Fatalf("Leaves(%d) are %v, not %v", n, l, want)
		}
	}
}

// noneElse tells if there is anything where the plain one has no page.
func (p *plain) noneElse(t *testing.T, s *store.Store) {
	t.Helper()
	l := slices.Clone(odd)
	for f := range p.words {
		l = append(l, f)
	}
	for _, f := range l {
		if p.page(f) != nil {
			continue
		}
		if k, is := s.Key(f); k != (api.Key{}) || is {
			t.Fatalf("Key(%d) of no page is %v, %t", f, k, is)
		}
		if z, is := s.Slot(f, 0); z != (api.Slot{}) || is {
			t.Fatalf("Slot(%d, 0) of no page is %v, %t", f, z, is)
		}
	}
	for _, k := range keysAbout(p) {
		if want, is := p.find(k); !is {
			if f, is := s.Find(k); f != want || is {
				t.Fatalf("Find(%v) of none is %d, %t", k, f, is)
			}
		}
	}
}

// keysAbout are the keys that differ by a little from those that there are.
func keysAbout(p *plain) []api.Key {
	l := []api.Key{{}, {Level: 1}, {G: -1, Level: -1, Role: -1}}
	for _, x := range p.pages {
		k := x.key
		for _, n := range []int{-1, 0, 1} {
			for _, m := range []int{-1, 0, 1} {
				l = append(l, api.Key{G: k.G + n, Level: k.Level + m, Role: k.Role}, api.Key{G: k.G, Level: k.Level + n, Role: k.Role + m}, api.Key{G: k.Level, Level: k.G + n, Role: m})
			}
		}
	}
	return l
}

// is tells where a store and its memory are not as the plain one is.
func (p *plain) is(t *testing.T, s *store.Store, h *frame.Mem) {
	t.Helper()
	p.pagesAre(t, s)
	p.linksAre(t, s)
	p.noneElse(t, s)
	p.wordsAre(t, h)
}

// written is a memory of which each word is another one, and none is 0.
func written(frames int) *frame.Mem {
	h := frame.New(frames)
	for f := range frames {
		for i := range 8 {
			h.Set(f, i, uint64(f)<<40|uint64(i)<<32|0xdead0001)
		}
	}
	return h
}

// both are a store and a plain one, of one memory.
type both struct {
	t *testing.T
	h *frame.Mem
	s *store.Store
	p *plain
}

// made are both, of a memory whose words are not 0.
func made(t *testing.T, frames, first, many int) both {
	t.Helper()
	h := written(frames)
	s := store.New(h, first, many)
	if s == nil {
		t.Fatalf("New(%d frames, %d, %d) is nil", frames, first, many)
	}
	return both{t, h, s, newPlain(h, first, many)}
}

func (b both) make(k api.Key) int {
	b.t.Helper()
	f, is := b.s.Make(k)
	if want, wantIs := b.p.make(k); f != want || is != wantIs {
		b.t.Fatalf("Make(%v) is %d, %t, not %d, %t", k, f, is, want, wantIs)
	}
	return f
}

func (b both) child(p, i, c int, r api.Right) bool {
	b.t.Helper()
	is := b.s.Child(p, i, c, r)
	if want := b.p.child(p, i, c, r); is != want {
		b.t.Fatalf("Child(%d, %d, %d, %v) is %t", p, i, c, r, is)
	}
	return is
}

func (b both) leaf(p, i, g, h int, r api.Right) bool {
	b.t.Helper()
	is := b.s.Leaf(p, i, g, h, r)
	if want := b.p.leaf(p, i, g, h, r); is != want {
		b.t.Fatalf("Leaf(%d, %d, %d, %d, %v) is %t", p, i, g, h, r, is)
	}
	return is
}

func (b both) clear(p, i int) bool {
	b.t.Helper()
	is := b.s.Clear(p, i)
	if want := b.p.clear(p, i); is != want {
		b.t.Fatalf("Clear(%d, %d) is %t", p, i, is)
	}
	return is
}

func (b both) drop(p int) bool {
	b.t.Helper()
	is := b.s.Drop(p)
	if want := b.p.drop(p); is != want {
		b.t.Fatalf("Drop(%d) is %t", p, is)
	}
	return is
}

func (b both) same() {
	b.t.Helper()
	b.p.is(b.t, b.s, b.h)
}

// so tells if what is to be true is not.
func so(t *testing.T, is bool, what string) {
	t.Helper()
	if !is {
		t.Fatal(what)
	}
}

// tree is both, with the pages 4 of the level 3, 5 and 6 of the level 2, 7, 8 and 9 of the level 1, which tell one another; 10 and 11 are free.
func tree(t *testing.T) both {
	t.Helper()
	b := made(t, 16, 4, 8)
	for _, k := range []api.Key{{G: 20, Level: 3}, {G: 21, Level: 2}, {G: 22, Level: 2}, {G: 23, Level: 1}, {G: 24, Level: 1, Role: 1}, {G: 24, Level: 1, Role: 2}} {
		b.make(k)
	}
	b.child(4, 0, 5, rights[7])
	b.child(4, 7, 6, rights[5])
	b.child(4, 3, 5, rights[0])
	b.child(5, 1, 7, rights[7])
	b.child(5, 2, 8, rights[6])
	b.child(6, 2, 7, rights[2])
	b.child(6, 6, 9, rights[3])
	b.leaf(7, 0, 5, 12, rights[7])
	b.leaf(7, 5, 30, 13, rights[1])
	b.leaf(8, 5, 5, 12, rights[4])
	b.leaf(9, 7, 7, 14, rights[6])
	b.same()
	return b
}

// P14.1, P14.2, P14.4: N1, New of what may be is one of no pages, and changes no word; its Left is as many as it was told.
func TestNewIsOfNoPages(t *testing.T) {
	for _, frames := range []int{1, 2, 3, 8, 255, 256} {
		for first := range frames + 1 {
			for _, many := range []int{0, 1, 2, frames - first - 1, frames - first} {
				if many >= 0 && first+many <= frames {
					b := made(t, frames, first, many)
					b.p.pagesAre(t, b.s)
					b.p.wordsAre(t, b.h)
				}
			}
		}
	}
	b := made(t, 16, 4, 8)
	b.same()
}

// P14.1: N1, New is nil just if a number is below 0, or both together are above the host's Frames.
func TestNewThatMayNotBeIsNil(t *testing.T) {
	for _, frames := range []int{1, 2, 16, 255, 256} {
		h := written(frames)
		for first := -3; first <= 259; first++ {
			for many := -3; many <= 259; many++ {
				want := first >= 0 && many >= 0 && first+many <= frames
				if is := store.New(h, first, many) != nil; is != want {
					t.Fatalf("New(%d frames, %d, %d) is there: %t", frames, first, many, is)
				}
			}
		}
		for _, first := range odd {
			for _, many := range odd {
				want := first >= 0 && many >= 0 && first <= frames && many <= frames-first
				if is := store.New(h, first, many) != nil; is != want {
					t.Fatalf("New(%d frames, %d, %d) is there: %t", frames, first, many, is)
				}
			}
		}
		if !h.Same(written(frames)) {
			t.Fatal("New has changed the memory")
		}
	}
}

// P14.1: the edges that N1 names: an end just at the host's Frames, one above it, none at all.
func TestNewAtTheHostsEnd(t *testing.T) {
	h := written(16)
	for _, c := range []struct {
		first, many int
		is          bool
	}{{14, 2, true}, {14, 3, false}, {0, 16, true}, {0, 17, false}, {16, 0, true}, {17, 0, false}, {0, 0, true}, {15, 1, true}, {16, 1, false}, {-1, 1, false}, {1, -1, false}, {256, 0, false}, {math.MaxInt, math.MaxInt, false}, {math.MaxInt, 1, false}, {1, math.MaxInt, false}, {math.MinInt, math.MinInt, false}} {
		if is := store.New(h, c.first, c.many) != nil; is != c.is {
			t.Errorf("New(%d, %d) is there: %t", c.first, c.many, is)
		}
	}
}

// P14.1, P14.4: N3, a pool of none makes no page, wherever it is.
func TestAPoolOfNone(t *testing.T) {
	for _, first := range []int{0, 3, 16} {
		b := made(t, 16, first, 0)
		b.make(api.Key{Level: 1})
		b.make(api.Key{G: 4, Level: 3})
		b.drop(first)
		b.same()
	}
}

// P14.1: N3, a key of each Level and Role: one that is right is made, another one not; the chapter's example, one key twice.
func TestMakeOfEachKey(t *testing.T) {
	for level := -2; level <= 6; level++ {
		for role := -2; role <= 5; role++ {
			for _, g := range []int{0, 1, 5, -1, math.MinInt, math.MaxInt} {
				b := made(t, 4, 1, 2)
				k := api.Key{G: g, Level: level, Role: role}
				b.make(k)
				b.same()
				b.make(k)
				b.same()
			}
		}
	}
	for _, n := range odd {
		b := made(t, 4, 1, 3)
		b.make(api.Key{Level: n})
		b.make(api.Key{Level: n, Role: 1})
		b.make(api.Key{Level: 1, Role: n})
		b.make(api.Key{Level: 2, Role: n})
		b.make(api.Key{Level: n, Role: n})
		b.same()
	}
}

// P14.1, P14.4: keys that are alike but for one part are of pages of their own.
func TestKeysThatAreNearlyAlike(t *testing.T) {
	b := made(t, 256, 0, 256)
	for _, g := range append(odd, 6) {
		for _, k := range []api.Key{{G: g, Level: 1}, {G: g, Level: 2}, {G: g, Level: 3}, {G: g, Level: 1, Role: 1}, {G: g, Level: 1, Role: 2}} {
			b.make(k)
			b.make(k)
		}
	}
	b.same()
	for _, g := range odd {
		if len(b.s.Of(g)) != 3 {
			t.Fatalf("Of(%d) is %v", g, b.s.Of(g))
		}
	}
}

// P14.1, P14.4: N3, as many pages are made as there are frames, then none; the frames are just those of the pool, the least first.
func TestMakeTillNoFrameIsLeft(t *testing.T) {
	for _, c := range []struct{ frames, first, many int }{{16, 4, 3}, {1, 0, 1}, {16, 0, 16}, {256, 0, 256}, {256, 255, 1}, {256, 100, 9}} {
		b := made(t, c.frames, c.first, c.many)
		for n := range c.many {
			if f := b.make(api.Key{G: n, Level: n%3 + 1}); f != c.first+n {
				t.Fatalf("the page %d is the frame %d", n, f)
			}
		}
		b.same()
		for n := range 3 {
			b.make(api.Key{G: 1000, Level: n + 1})
		}
		b.make(api.Key{G: 0, Level: 1})
		b.same()
		so(t, b.s.Left() == 0 && len(b.s.All()) == c.many, "not as many as there are")
	}
}

// P14.1, P14.2: N3, a page that is made is empty, whatever its frame's words were; no other frame's are changed.
func TestMakeEmptiesTheFrame(t *testing.T) {
	b := made(t, 8, 2, 4)
	for n := range 4 {
		f := b.make(api.Key{G: n, Level: 1})
		so(t, [8]uint64(b.h.Frame(f)) == [8]uint64{}, "not empty")
		b.same()
	}
}

// P14.1, P14.4: N3, N4, a page that is given back: its frame is taken next, and its page is the last one; its key may be made again.
func TestTheFrameThatIsTakenNext(t *testing.T) {
	for n := range 4 {
		b := made(t, 16, 4, 6)
		for g := range 4 {
			b.make(api.Key{G: g, Level: 1})
			b.leaf(4+g, g, 9, 15, rights[7])
		}
		so(t, b.drop(4+n), "there is no page")
		b.same()
		so(t, !b.drop(4+n), "it is dropped twice")
		b.same()
		so(t, b.make(api.Key{G: 10, Level: 2}) == 4+n, "another frame is taken")
		b.same()
		so(t, b.make(api.Key{G: n, Level: 1}) == 8, "another frame is taken")
		b.same()
	}
	b := made(t, 16, 4, 6)
	for g := range 6 {
		b.make(api.Key{G: g, Level: 3})
	}
	for _, f := range []int{7, 4, 9, 5, 8, 6} {
		so(t, b.drop(f), "there is no page")
		b.same()
	}
	for _, f := range []int{6, 8, 5, 9, 4, 7} {
		so(t, b.make(api.Key{G: f, Level: 3}) == f, "another frame is taken")
		b.same()
	}
}

// P14.1: N3, a Child of the next lower level is; of the same one, of a higher one, of two below, of no page, it is not, and nothing has changed.
func TestChildOfEachLevel(t *testing.T) {
	b := made(t, 16, 4, 10)
	for n := range 9 {
		b.make(api.Key{G: n / 3, Level: n%3 + 1})
	}
	for _, p := range b.s.All() {
		for _, c := range append(b.s.All(), 3, 13, 0, 15, 16, -1, 4+1<<32) {
			is := b.child(p, p%8, c, rights[7])
			x, _ := b.s.Key(p)
			y, page := b.s.Key(c)
			so(t, is == (page && x.Level == y.Level+1), "a Child of another level")
			b.same()
		}
	}
}

// P14.1: N3, a page of each Role may be a Child of one of the level 2, and none of these of the level 3.
func TestChildOfEachRole(t *testing.T) {
	b := made(t, 16, 4, 6)
	for _, k := range []api.Key{{G: 1, Level: 3}, {G: 1, Level: 2}, {G: 1, Level: 1}, {G: 1, Level: 1, Role: 1}, {G: 1, Level: 1, Role: 2}} {
		b.make(k)
	}
	for role := range 3 {
		so(t, b.child(5, role, 6+role, rights[role]), "no Child")
		so(t, !b.child(4, role, 6+role, rights[role]), "a Child of two levels below")
		b.same()
	}
}

// P14.1, P14.2: N3, a Child's word and a Leaf's have just the rights that they are told, and the frame.
func TestWordsOfAllRights(t *testing.T) {
	b := made(t, 256, 0, 256)
	for n := range 256 {
		b.make(api.Key{G: n, Level: []int{3, 2, 1}[min(n, 2)]})
	}
	for i, r := range rights {
		b.child(0, i, 1, r)
		b.child(1, i, 2+i*36, r)
		b.leaf(2, i, 64-i, i*36, r)
		b.leaf(255, i, i, 255, r)
		b.leaf(254, i, i, 0, rights[7-i])
	}
	b.same()
	for _, c := range []struct {
		f, i int
		want uint64
	}{{0, 0, 1<<63 + 1<<12 + 1}, {0, 7, 1<<12 + 7}, {1, 1, 1<<63 + 38<<12 + 3}, {1, 6, 218<<12 + 5}, {2, 2, 1<<63 + 72<<12 + 5}, {255, 4, 255<<12 + 1}, {254, 7, 1<<63 + 1}} {
		if v, _ := b.h.Get(c.f, c.i); v != c.want {
			t.Errorf("the word %d, %d is %x, not %x", c.f, c.i, v, c.want)
		}
	}
}

// P14.1, P14.2: N3, a Leaf to a host's frame that there is, and that there is not; the first and the last one.
func TestLeafOfTheHostsFrames(t *testing.T) {
	for _, frames := range []int{1, 2, 16, 256} {
		b := made(t, frames, frames-1, 1)
		f := b.make(api.Key{G: 3, Level: 1})
		for _, h := range append(odd, frames-1, frames, frames+1, -frames) {
			so(t, b.leaf(f, 5, 7, h, rights[3]) == (h >= 0 && h < frames), "a Leaf of another frame")
			b.same()
		}
	}
}

// P14.1, P14.3: N3, a Leaf may tell any number as the guest's frame; the word is of the host's alone.
func TestLeafOfAnyGuestsFrame(t *testing.T) {
	b := made(t, 16, 4, 3)
	p, q := b.make(api.Key{G: 3, Level: 1}), b.make(api.Key{G: 3, Level: 1, Role: 1})
	for n, g := range odd {
		so(t, b.leaf(p, n%8, g, 11, rights[n%8]), "no Leaf")
		so(t, b.leaf(q, n%3, g, n%16, rights[n%8]), "no Leaf")
		b.same()
	}
}

// P14.1: N3, a Leaf on a page that is not of the Level 1 is false, and nothing has changed.
func TestLeafOfALevelThatHasNone(t *testing.T) {
	b := tree(t)
	for _, p := range []int{4, 5, 6} {
		for i := range 8 {
			so(t, !b.leaf(p, i, 5, 12, rights[7]), "a Leaf of a higher level")
		}
	}
	b.same()
	for p := 7; p <= 9; p++ {
		so(t, b.leaf(p, 3, 5, 12, rights[7]), "no Leaf")
		b.same()
	}
}

// P14.1, P14.2, P14.3: N3, a slot that is told twice is what was told last: another page or frame, other rights, another host's frame.
func TestASlotThatIsToldTwice(t *testing.T) {
	b := tree(t)
	b.child(4, 0, 6, rights[7])
	b.same()
	b.child(4, 0, 6, rights[2])
	b.same()
	b.child(4, 0, 6, rights[2])
	b.same()
	b.leaf(7, 0, 5, 12, rights[0])
	b.same()
	b.leaf(7, 0, 5, 13, rights[0])
	b.same()
	b.leaf(7, 0, 6, 13, rights[0])
	b.same()
	b.leaf(7, 0, 6, 13, rights[0])
	b.same()
}

// P14.1, P14.2: N3, a slot that is cleared is empty; a second time it is false, as for one that was never told.
func TestClear(t *testing.T) {
	for _, p := range tree(t).s.All() {
		for i := range 8 {
			b := tree(t)
			z, _ := b.s.Slot(p, i)
			so(t, b.clear(p, i) == (z.Kind != 0), "cleared another one")
			b.same()
			so(t, !b.clear(p, i), "cleared twice")
			b.same()
		}
	}
}

// P14.1: a slot that is cleared may be told again.
func TestClearedAndToldAgain(t *testing.T) {
	b := tree(t)
	b.clear(4, 0)
	b.child(4, 0, 5, rights[1])
	b.clear(7, 0)
	b.leaf(7, 0, 0, 0, rights[0])
	b.same()
	so(t, b.clear(7, 0), "a Leaf to the frame 0 is there")
	b.same()
}

// P14.1, P2: N2, N3, a slot that there is not: nothing is told of it, and nothing has changed.
func TestSlotsThatThereAreNot(t *testing.T) {
	b := tree(t)
	for _, p := range append(odd, b.s.All()...) {
		for _, i := range append(odd, 6) {
			if _, is := b.p.slot(p, i); is {
				continue
			}
			so(t, !b.child(p, i, 5, rights[7]), "a Child")
			so(t, !b.child(p, i, 7, rights[7]), "a Child")
			so(t, !b.leaf(p, i, 5, 12, rights[7]), "a Leaf")
			so(t, !b.clear(p, i), "cleared")
			if z, is := b.s.Slot(p, i); z != (api.Slot{}) || is {
				t.Fatalf("Slot(%d, %d) is %v, %t", p, i, z, is)
			}
		}
	}
	b.same()
}

// P14.1, P14.3: N2, a slot of a Child tells no guest's frame, one of a Leaf no page, and an empty one nothing, though the numbers are the same.
func TestLinksOfKinds(t *testing.T) {
	b := made(t, 8, 0, 8)
	for _, k := range []api.Key{{G: 1, Level: 1}, {G: 1, Level: 2}, {G: 1, Level: 3}, {G: 2, Level: 1}} {
		b.make(k)
	}
	so(t, len(b.s.Parents(0)) == 0 && len(b.s.Leaves(0)) == 0, "an empty slot tells something")
	b.child(1, 4, 0, rights[7])
	b.leaf(0, 4, 1, 5, rights[7])
	b.leaf(3, 0, 0, 5, rights[7])
	b.leaf(3, 5, 3, 0, rights[7])
	b.child(2, 5, 1, rights[7])
	b.same()
	if l := b.s.Parents(0); !slices.Equal(l, []api.At{{G: 1, I: 4}}) {
		t.Errorf("Parents(0) are %v", l)
	}
	if l := b.s.Leaves(0); !slices.Equal(l, []api.At{{G: 3}}) {
		t.Errorf("Leaves(0) are %v", l)
	}
}

// P14.3: N2, Parents and Leaves are by pages as they were made, whatever their frames are, and of one page by places, whenever they were told.
func TestLinksAreInOrder(t *testing.T) {
	b := made(t, 16, 4, 6)
	for g := range 3 {
		b.make(api.Key{G: g, Level: 1})
	}
	b.drop(4)
	b.make(api.Key{G: 9, Level: 2})
	b.make(api.Key{G: 10, Level: 1})
	b.make(api.Key{G: 11, Level: 2})
	b.drop(5)
	b.make(api.Key{G: 12, Level: 1})
	for _, p := range []int{5, 7, 6} {
		for _, i := range []int{7, 0, 3} {
			b.leaf(p, i, 2, p+i, rights[i])
		}
	}
	for _, p := range []int{8, 4} {
		for _, i := range []int{6, 1, 2} {
			b.child(p, i, 7, rights[i])
		}
	}
	b.same()
	if l := b.s.Leaves(2); !slices.Equal(l, []api.At{{G: 6}, {G: 6, I: 3}, {G: 6, I: 7}, {G: 7}, {G: 7, I: 3}, {G: 7, I: 7}, {G: 5}, {G: 5, I: 3}, {G: 5, I: 7}}) {
		t.Errorf("Leaves are %v", l)
	}
	if l := b.s.Parents(7); !slices.Equal(l, []api.At{{G: 4, I: 1}, {G: 4, I: 2}, {G: 4, I: 6}, {G: 8, I: 1}, {G: 8, I: 2}, {G: 8, I: 6}}) {
		t.Errorf("Parents are %v", l)
	}
}

// P14.1: N1, Of is by the Role 0 alone, of all levels, as they were made; All is of every Role.
func TestOf(t *testing.T) {
	b := made(t, 16, 4, 9)
	for _, k := range []api.Key{{G: 5, Level: 1, Role: 1}, {G: 5, Level: 2}, {G: 6, Level: 1}, {G: 5, Level: 1, Role: 2}, {G: 5, Level: 1}, {G: 6, Level: 3}, {G: 5, Level: 3}, {G: 7, Level: 1, Role: 2}} {
		b.make(k)
	}
	b.same()
	for g, want := range map[int][]int{5: {5, 8, 10}, 6: {6, 9}, 7: nil, 4: nil, 0: nil} {
		if l := b.s.Of(g); !slices.Equal(l, want) {
			t.Errorf("Of(%d) is %v", g, l)
		}
	}
	b.drop(5)
	b.make(api.Key{G: 5, Level: 2})
	if l := b.s.Of(5); !slices.Equal(l, []int{8, 10, 5}) {
		t.Errorf("Of(5) is %v", l)
	}
}

// P14.1 to P14.4: N4, a Drop of each page of a tree: the slots that tell it are empty, and its own, and what it told is told no more; the others are as they were.
func TestDropOfEachPage(t *testing.T) {
	for p := 4; p <= 9; p++ {
		b := tree(t)
		so(t, b.drop(p), "there is no page")
		b.same()
		so(t, [8]uint64(b.h.Frame(p)) == [8]uint64{}, "its words are there still")
		so(t, len(b.s.Parents(p)) == 0, "it is told still")
		b.make(api.Key{G: 40, Level: 1})
		b.same()
	}
}

// P14.1: N4, a Drop of a page that several slots tell, and that tells others itself.
func TestDropOfAPageThatSeveralTell(t *testing.T) {
	b := tree(t)
	so(t, b.drop(5), "there is no page")
	for _, at := range []api.At{{G: 4}, {G: 4, I: 3}} {
		if z, is := b.s.Slot(at.G, at.I); z != (api.Slot{}) || !is {
			t.Errorf("the slot %v is %v, %t", at, z, is)
		}
		if v, _ := b.h.Get(at.G, at.I); v != 0 {
			t.Errorf("the word %v is %x", at, v)
		}
	}
	if l := b.s.Parents(7); !slices.Equal(l, []api.At{{G: 6, I: 2}}) {
		t.Errorf("Parents(7) are %v", l)
	}
	if l := b.s.Parents(8); len(l) != 0 {
		t.Errorf("Parents(8) are %v", l)
	}
	b.same()
}

// P14.1: N4, a Drop of no page is false, and changes nothing.
func TestDropOfNoPage(t *testing.T) {
	b := tree(t)
	for _, p := range append(odd, 10, 11, 12, 13, 14) {
		if b.p.page(p) == nil {
			so(t, !b.drop(p), "a page of none")
		}
	}
	b.same()
}

// P14.1, P14.4: all pages dropped, all are free again, and no slot tells anything.
func TestDropOfAll(t *testing.T) {
	b := tree(t)
	for _, p := range b.s.All() {
		b.drop(p)
		b.same()
	}
	so(t, b.s.Left() == 8 && len(b.s.All()) == 0, "not all are free")
}

// P14.2: stores of one memory, whose frames are apart, do not change each other's.
func TestTwoStoresOfOneMemory(t *testing.T) {
	h := written(16)
	a, b := store.New(h, 0, 8), store.New(h, 8, 8)
	for g := range 8 {
		for _, s := range []*store.Store{a, b} {
			p, is := s.Make(api.Key{G: g, Level: 1})
			so(t, is && s.Leaf(p, g, g, p, rights[7]), "no page")
		}
	}
	for f := range 16 {
		want := [8]uint64{}
		want[f%8] = uint64(f)<<12 + 7
		so(t, [8]uint64(h.Frame(f)) == want, "another one's words")
	}
	a.Drop(3)
	so(t, slices.Equal(b.All(), []int{8, 9, 10, 11, 12, 13, 14, 15}) && b.Left() == 0 && a.Left() == 1, "another one's pages")
}

// P14.2: what others write to the host's frames is as they wrote it, but where a slot is told.
func TestWhatOthersWrite(t *testing.T) {
	b := tree(t)
	for f := range 16 {
		if b.p.page(f) == nil {
			b.h.Set(f, 1, 77)
			b.p.words[f][1] = 77
		}
	}
	b.same()
	b.make(api.Key{G: 50, Level: 1})
	b.same()
	b.leaf(10, 0, 1, 15, rights[0])
	b.drop(7)
	b.same()
}

// P3: lists that come out are new memory, their spare room too; what the caller does to them changes nothing.
func TestListsAreNewMemory(t *testing.T) {
	b := tree(t)
	for range 2 {
		for _, l := range [][]int{b.s.All(), b.s.Of(21)} {
			so(t, len(l) > 0, "none")
			for i := range l[:cap(l)] {
				l[:cap(l)][i] = -9
			}
		}
		for _, l := range [][]api.At{b.s.Parents(7), b.s.Leaves(5)} {
			so(t, len(l) > 0, "none")
			for i := range l[:cap(l)] {
				l[:cap(l)][i] = api.At{G: -9, I: -9}
			}
		}
		b.same()
	}
	l, at := b.s.All(), b.s.Leaves(5)
	keep, keepAt := slices.Clone(l), slices.Clone(at)
	b.drop(7)
	b.make(api.Key{G: 60, Level: 1})
	b.leaf(8, 0, 5, 12, rights[0])
	so(t, slices.Equal(l, keep) && slices.Equal(at, keepAt), "a list is changed by what comes behind it")
}

// P3: stores are apart, though they are of memories of one size; asking changes nothing.
func TestStoresAreApart(t *testing.T) {
	a, b := tree(t), tree(t)
	a.drop(5)
	a.make(api.Key{G: 70, Level: 1})
	a.same()
	b.same()
	b.same()
}

// step does one of the calls on both, as the number says.
func (b both) step(x uint64) {
	b.t.Helper()
	n := func(at, many int) int { return int(x>>at) % many }
	p := n(8, 12) + 1
	i := n(16, 10) - 1
	r := rights[n(24, 8)]
	switch n(60, 16) {
	case 0, 1, 2, 3:
		b.make(api.Key{G: n(32, 4), Level: n(36, 4), Role: n(40, 2) * n(42, 4)})
	case 4:
		b.drop(p)
	case 5, 6, 7, 8, 9:
		b.child(p, i, n(32, 12)+1, r)
	case 10, 11, 12, 13:
		b.leaf(p, i, n(32, 12), n(40, 16), r)
	default:
		b.clear(p, i)
	}
}

// P14.1 to P14.4: long runs of all calls, held against a plain store at each step.
func TestLongRuns(t *testing.T) {
	for _, c := range []struct{ frames, first, many int }{{14, 2, 9}, {14, 2, 3}, {12, 0, 12}, {13, 12, 1}} {
		b := made(t, c.frames, c.first, c.many)
		x := uint64(c.many)
		made := 0
		for range 3000 {
			x = x*6364136223846793005 + 1442695040888963407
			b.step(x ^ x>>31)
			b.same()
			made = max(made, len(b.s.All()))
		}
		so(t, made == c.many, "never were there as many pages as there may be")
	}
}

// P3: two stores to which the same is done tell the same.
func TestTheSameIsTold(t *testing.T) {
	a, b := made(t, 14, 2, 9), made(t, 14, 2, 9)
	x := uint64(7)
	for range 3000 {
		x = x*6364136223846793005 + 1442695040888963407
		a.step(x)
		b.step(x)
		so(t, a.h.Same(b.h) && slices.Equal(a.s.All(), b.s.All()), "they are not the same")
	}
}

// P1: no call panics, whatever the numbers are, on a store of some pages, of none, and of no room.
func TestNothingPanics(t *testing.T) {
	for _, b := range []both{tree(t), made(t, 16, 4, 3), made(t, 1, 1, 0)} {
		for _, n := range odd {
			b.s.Key(n)
			b.s.Of(n)
			b.s.Parents(n)
			b.s.Leaves(n)
			for _, m := range odd {
				b.s.Slot(n, m)
				b.s.Find(api.Key{G: n, Level: m, Role: n})
				b.clear(n, m)
				b.child(4, n, m, rights[7])
				b.child(n, 0, m, rights[7])
				b.leaf(7, n, m, n, rights[7])
				b.leaf(7, 1, n, m, rights[7])
				b.leaf(n, m, 1, 1, rights[7])
			}
		}
		b.same()
		for _, n := range odd {
			b.drop(n)
			for _, m := range odd {
				b.make(api.Key{G: n, Level: m, Role: m})
				b.make(api.Key{G: m, Level: 1, Role: n})
			}
		}
		b.same()
	}
}
