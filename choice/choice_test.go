package choice_test

import (
	"bytes"
	"math"
	"slices"
	"testing"

	"silhouette/api"
	"silhouette/choice"
	"silhouette/frame"
	"silhouette/gmap"
	"silhouette/guest"
	"silhouette/model"
)

// odd are numbers about every edge.
var odd = []int{math.MinInt, math.MinInt + 1, math.MinInt + 511, math.MinInt32, -1 << 32, -1<<32 + 3, -32769, -32768, -32767, -1024, -513, -512, -511, -256, -8, -2, -1, 0, 1, 2, 7, 8, 63, 64, 255, 256, 257, 510, 511, 512, 513, 767, 768, 1023, 1024, 32767, 32768, 32769, 33279, 33280, 65535, 65536, 65539, math.MaxInt32, 1 << 32, 1<<32 + 3, 1 << 62, math.MaxInt - 511, math.MaxInt - 1, math.MaxInt}

// both are what a bool may be.
var both = []bool{false, true}

// Bits of entries, as the document tells them; all are those of an entry that permits everything.
const (
	p   = 1
	w   = 2
	u   = 4
	a   = 32
	d   = 64
	ps  = 128
	nx  = 1 << 63
	all = p | w | u
)

// every is a right to do everything.
var every = api.Right{W: true, U: true, X: true}

// of is a word of the frame g, that has those bits.
func of(g int, bits uint64) uint64 { return uint64(g)<<12 | bits }

// fill and drop are the two choices of a page.
func fill(page int) api.Choice { return api.Choice{Fill: true, Page: page} }

func drop(page int) api.Choice { return api.Choice{Page: page} }

// one is a choice of a page.
func one(is bool, page int) api.Choice { return api.Choice{Fill: is, Page: page} }

// frames is how many the guest has that lying makes.
const frames = 24

// lying is a guest of so many frames of those words, that lie backwards and with holes in a host's; what the host has between them is none of theirs.
func lying(t *testing.T, words []uint64) (*frame.Mem, *guest.Mem) {
	t.Helper()
	h := frame.New(2 * frames)
	var places []int
	for g := range frames {
		places = append(places, 2*frames-1-2*g)
		h.Fill(2*g, []uint64{5, 39, of(g, all|a), 0, 1 << 63, 12, 13, of(3, 39)})
	}
	m := guest.New(h, gmap.New(places, 2*frames))
	if !m.Load(words) {
		t.Fatalf("there is no guest of %d words", len(words))
	}
	return h, m
}

// plain is what is known of pages, as the chapters tell it, of a memory of words that do not change.
type plain struct {
	words []uint64
	root  int
	hits  []api.Hit
}

// path is the hit that a page's way through the tables tells, if all its entries are told as used.
func (x *plain) path(page int) (api.Hit, bool) {
	h := api.Hit{Page: page, Right: every}
	g := x.root
	for level := 3; level >= 1; level-- {
		if g < 0 || g >= len(x.words)/8 {
			return api.Hit{}, false
		}
		v := x.words[8*g+page>>(3*level-3)%8]
		g = int(v >> 12 & 0xfffff)
		large := v&ps != 0
		if v&p == 0 || v&a == 0 || v&^(all|a|d|ps|nx|0xfffff000) != 0 || large && (level != 2 || g%8 != 0) {
			return api.Hit{}, false
		}
		h.Right.W, h.Right.U, h.Right.X = h.Right.W && v&w != 0, h.Right.U && v&u != 0, h.Right.X && v&nx == 0
		h.Frame, h.Dirty = g, v&d != 0
		if large {
			h.Frame += page % 8
			break
		}
	}
	return h, h.Frame < len(x.words)/8
}

func (x *plain) known(page int) (api.Hit, bool) {
	for _, h := range x.hits {
		if h.Page == page {
			return h, true
		}
	}
	return api.Hit{}, false
}

// does is one choice: did it do something?
func (x *plain) does(c api.Choice) bool {
	if c.Page < 0 || c.Page > 511 {
		return false
	}
	_, is := x.known(c.Page)
	if !c.Fill {
		x.hits = slices.DeleteFunc(slices.Clone(x.hits), func(h api.Hit) bool { return h.Page == c.Page })
		return is
	}
	h, may := x.path(c.Page)
	if is || !may {
		return false
	}
	x.hits = append(slices.Clone(x.hits), h)
	return true
}

// duo is a model, and a plain one of the same words: what is applied to both must come out the same, and leave the same behind.
type duo struct {
	t    *testing.T
	host *frame.Mem
	mem  *guest.Mem
	m    *model.Model
	p    *plain
}

func newDuo(t *testing.T, words []uint64, root int) *duo {
	t.Helper()
	h, g := lying(t, words)
	return &duo{t, h, g, model.New(g, root), &plain{words: words, root: root}}
}

// hosts are all words of the host.
func (b *duo) hosts() []uint64 {
	var l []uint64
	for f := range b.host.Frames() {
		l = append(l, b.host.Frame(f)...)
	}
	return l
}

// asks applies choices: how many did something.
func (b *duo) asks(l ...api.Choice) int {
	b.t.Helper()
	want := 0
	for _, c := range l {
		if b.p.does(c) {
			want++
		}
	}
	if n := choice.Apply(b.m, l); n != want {
		b.t.Fatalf("Apply of %v is %d, not %d", l, n, want)
	}
	if hits := b.m.All(); !slices.Equal(hits, b.p.hits) {
		b.t.Fatalf("behind Apply of %v there is known %+v, not %+v", l, hits, b.p.hits)
	}
	return want
}

// apply applies choices, of which so many must do something.
func (b *duo) apply(want int, l ...api.Choice) {
	b.t.Helper()
	if n := b.asks(l...); n != want {
		b.t.Fatalf("Apply of %v is %d, not %d", l, n, want)
	}
}

// knows tells where All is not those hits.
func (b *duo) knows(want ...api.Hit) {
	b.t.Helper()
	if l := b.m.All(); !slices.Equal(l, want) {
		b.t.Fatalf("All is %+v, not %+v", l, want)
	}
}

// loads does a Load by the system, of the word 0 of a page, that must be v.
func (b *duo) loads(page int, v uint64) {
	b.t.Helper()
	addr := uint64(page * 64)
	if page >= 256 {
		addr -= 1 << 15
	}
	if o := b.m.Access(api.Load, false, addr, 0); o != (api.Out{V: v}) {
		b.t.Fatalf("a Load of the page %d is %+v, not %d", page, o, v)
	}
	b.p.words, b.p.hits = b.mem.All(), b.m.All()
}

// edit has a word be another one.
func (b *duo) edit(g, i int, v uint64) {
	b.t.Helper()
	if b.m.Edit(g, i, v) != (api.Out{}) {
		b.t.Fatalf("there is no word %d, %d", g, i)
	}
	b.p.words = b.mem.All()
}

// Pages of usual: their places in the tables 1 and 4 are 5 and 3, and in 7 the one that is added; large are those of the places 5 and 1 or 2.
const (
	low    = 5*64 + 3*8
	free   = low + 0 // the frame 8, that permits everything
	strict = low + 1 // the frame 9, that may be run by the system alone
	dirty  = low + 2 // the frame 10, that was written to
	fresh  = low + 3 // the frame 11, that was never used
	gone   = low + 4 // a frame that the guest has not
	own    = low + 5 // the frame 7: the page's own table of the level 1
	data   = low + 6 // the frame 13, that may not be run
	next   = low + 7 // the frame 12, that permits everything
	large  = 5*64 + 1*8
	larger = 5*64 + 2*8 // the same frames, that were written to
)

// usual are words of a guest's, with tables from the root 1 on, by the frames 4 and 7; the first and the last page have a path, too. The words 0 of the frames from 8 on are 100 more than their frames' numbers.
func usual() []uint64 {
	l := make([]uint64, 8*frames)
	copy(l[8:], []uint64{of(4, all|a), 0, of(4, all), of(4, all|a|8), of(900, all|a), of(4, all|a), of(4, p|w|a), of(4, all|a)})
	copy(l[16:], []uint64{of(4, all|a)})
	copy(l[32:], []uint64{of(7, all|a), of(16, all|ps|a), of(16, all|ps|a|d), of(7, all|a), of(16, all|ps), 0, of(17, all|ps|a), of(7, all|a)})
	copy(l[56:], []uint64{of(8, all|a), of(9, p|a), of(10, all|a|d), of(11, all), of(900, all|a), of(7, all|a), of(13, all|a|nx), of(12, all|a)})
	for g := 8; g < frames; g++ {
		l[8*g] = uint64(100 + g)
	}
	return l
}

// hit is one of usual's.
func hit(page, g int) api.Hit { return api.Hit{Page: page, Frame: g, Right: every} }

// P11.1: K1, Right: just those of the pages 0 to 511, be it a Fill or not.
func TestRight(t *testing.T) {
	for page := -70000; page < 70000; page++ {
		for _, is := range both {
			if choice.Right(one(is, page)) != (page >= 0 && page < 512) {
				t.Fatalf("Right of %t, %d is wrong", is, page)
			}
		}
	}
	for _, page := range odd {
		for _, is := range both {
			if choice.Right(one(is, page)) != (page >= 0 && page < 512) {
				t.Fatalf("Right of %t, %d is wrong", is, page)
			}
		}
	}
}

// P11.1: K1, Apply of a Fill: model.Find of its page, whatever its path permits.
func TestFill(t *testing.T) {
	for _, want := range []api.Hit{
		hit(free, 8), hit(next, 12), hit(0, 8), hit(511, 12), hit(own, 7), hit(large, 16), hit(large+7, 23),
		{Page: strict, Frame: 9, Right: api.Right{X: true}},
		{Page: dirty, Frame: 10, Right: every, Dirty: true},
		{Page: data, Frame: 13, Right: api.Right{W: true, U: true}},
		{Page: larger + 3, Frame: 19, Right: every, Dirty: true},
		{Page: free + 64, Frame: 8, Right: api.Right{W: true, X: true}},
	} {
		b := newDuo(t, usual(), 1)
		b.apply(1, fill(want.Page))
		b.knows(want)
		b.apply(0, fill(want.Page))
		b.knows(want)
		b.apply(0, fill(want.Page), fill(want.Page))
	}
}

// P11.1: K1, Apply of a Fill of a page without a path, or of one that is not told as used, or of any from a root that the guest has not: nothing is known of it then.
func TestFillOfNoPath(t *testing.T) {
	for _, page := range []int{fresh, gone, 64, 128, 192, 256, 64 + 24, 127, 128 + 31, 319, 5*64 + 32, 5*64 + 39, 5*64 + 40, 5*64 + 48} {
		b := newDuo(t, usual(), 1)
		b.apply(0, fill(page))
		b.apply(0, fill(page), drop(page), fill(page))
		b.knows()
		b.apply(1, fill(page), fill(next), fill(page), drop(page))
		b.knows(hit(next, 12))
	}
	for _, root := range odd {
		if root >= 0 && root < frames {
			continue
		}
		b := newDuo(t, usual(), root)
		for page := range 512 {
			b.apply(0, fill(page), drop(page))
		}
		b.knows()
	}
}

// P11.1: K1, Apply of one that is no Fill: model.Forget of its page, and of that alone.
func TestDrop(t *testing.T) {
	pages := []int{0, 511, free, next, own, large}
	for _, page := range pages {
		b := newDuo(t, usual(), 1)
		b.apply(0, drop(page))
		for _, other := range pages {
			b.apply(1, fill(other))
		}
		b.apply(1, drop(page))
		if h, is := b.m.Known(page); is || h != (api.Hit{}) || len(b.m.All()) != len(pages)-1 {
			t.Fatalf("behind a Drop of %d there is known %+v", page, b.m.All())
		}
		b.apply(0, drop(page))
		b.apply(0, drop(page), drop(page))
	}
}

// P11.1: K1, Apply goes through all of a list, in order, and tells how many did something.
func TestInOrder(t *testing.T) {
	for _, c := range []struct {
		l    []api.Choice
		want int
		hits []api.Hit
	}{
		{nil, 0, nil},
		{[]api.Choice{}, 0, nil},
		{[]api.Choice{fill(free), drop(free)}, 2, nil},
		{[]api.Choice{drop(free), fill(free)}, 1, []api.Hit{hit(free, 8)}},
		{[]api.Choice{fill(free), fill(next)}, 2, []api.Hit{hit(free, 8), hit(next, 12)}},
		{[]api.Choice{fill(next), fill(free)}, 2, []api.Hit{hit(next, 12), hit(free, 8)}},
		{[]api.Choice{fill(next), fill(free), fill(next)}, 2, []api.Hit{hit(next, 12), hit(free, 8)}},
		{[]api.Choice{fill(next), fill(free), drop(next), fill(next)}, 4, []api.Hit{hit(free, 8), hit(next, 12)}},
		{[]api.Choice{fill(free), drop(free), fill(free), drop(free), fill(free)}, 5, []api.Hit{hit(free, 8)}},
		{[]api.Choice{fill(fresh), drop(fresh), drop(free), fill(next), fill(gone), drop(gone)}, 1, []api.Hit{hit(next, 12)}},
		{[]api.Choice{{}, {}, {Fill: true}}, 1, []api.Hit{hit(0, 8)}},
		{[]api.Choice{fill(511), fill(0), drop(511), drop(511)}, 3, []api.Hit{hit(0, 8)}},
	} {
		b := newDuo(t, usual(), 1)
		b.apply(c.want, c.l...)
		b.knows(c.hits...)
	}
}

// P11.1: K1, those of a list that are not right are left out, wherever they stand: the others are done all the same.
func TestWrongOnesAreLeftOut(t *testing.T) {
	for _, page := range odd {
		if page >= 0 && page < 512 {
			continue
		}
		for _, is := range both {
			x := one(is, page)
			b := newDuo(t, usual(), 1)
			b.apply(0, x)
			b.apply(0, x, x)
			b.apply(3, x, fill(free), x, fill(next), x, drop(free), x)
			b.knows(hit(next, 12))
		}
	}
}

// P11.1: K1, one that is not right is nothing, even where the model would find its page, or knows it.
func TestWrongOnesOfWhatIsKnown(t *testing.T) {
	for _, n := range []int{-1 << 32, -1024, -512, 512, 1024, 32768 - 512, 32768, 65536, 1 << 32} {
		for _, page := range []int{0, free, next, 511} {
			b := newDuo(t, usual(), 1)
			b.apply(0, fill(page+n))
			b.knows()
			if !b.m.Find(page + n) {
				t.Fatalf("the model does not find %d", page+n)
			}
			was := b.m.All()
			b.p.hits = b.m.All()
			b.apply(0, drop(page+n), fill(page+n), drop(page))
			b.knows(was...)
			b.apply(1, fill(page))
			b.apply(1, drop(page+n), drop(page))
			b.knows(was...)
		}
	}
}

// P11.1: choices, and accesses: a Drop has the next access walk the tables anew; a Fill has it go by what was found.
func TestChoicesAndAccesses(t *testing.T) {
	b := newDuo(t, usual(), 1)
	b.loads(free, 108)
	b.edit(7, 0, of(12, all|a))
	b.loads(free, 108)
	b.apply(0, fill(free))
	b.loads(free, 108)
	b.apply(1, drop(free))
	b.loads(free, 112)
	b.apply(1, drop(free), drop(next))
	b.apply(1, fill(free))
	b.edit(7, 0, 0)
	b.loads(free, 112)
	b.apply(1, drop(free), fill(free))
	if o := b.m.Access(api.Load, false, 0xffffffffffffd600, 0); o != (api.Out{How: api.Fault, Addr: 0xffffffffffffd600}) {
		t.Errorf("a Load of the page %d is %+v", free, o)
	}
	b.apply(0, fill(fresh))
	b.loads(fresh, 111)
	b.apply(2, drop(fresh), fill(fresh))
	b.knows(hit(fresh, 11))
	b.m.Root(2)
	b.p.root, b.p.hits = 2, nil
	b.apply(1, drop(fresh), fill(fresh), fill(7))
	b.knows(hit(7, 12))
}

// paths are all pages of usual that have a path that is told as used.
func paths() []int {
	x := plain{words: usual(), root: 1}
	var l []int
	for page := range 512 {
		if _, is := x.path(page); is {
			l = append(l, page)
		}
	}
	return l
}

// P11.1, P11.4: of all pages at once, in any order.
func TestAllPages(t *testing.T) {
	many := len(paths())
	if many < 100 || many > 400 {
		t.Fatalf("%d pages have a path", many)
	}
	for _, step := range []int{1, 37, 511, 255} {
		b := newDuo(t, usual(), 1)
		var fills, drops []api.Choice
		for n := range 512 {
			fills = append(fills, fill(n*step%512))
			drops = append(drops, drop((n*step+9)%512))
		}
		b.apply(0, drops...)
		b.apply(many, fills...)
		b.apply(0, fills...)
		b.apply(many, drops...)
		b.knows()
		b.apply(2*many, slices.Concat(drops, fills, fills, drops)...)
	}
	l := make([]uint64, 8*frames)
	for i := range 8 {
		l[i], l[8+i], l[16+i] = of(1, all|a), of(2, all|a), of(3+i, all|a)
	}
	b := newDuo(t, l, 0)
	for page := range 512 {
		b.apply(1, fill(511-page))
	}
	if h := b.m.All(); len(h) != 512 || h[0] != hit(511, 10) || h[511] != hit(0, 3) {
		t.Fatalf("of 512 pages, there are %d known: %+v", len(h), h)
	}
}

// P11.1: all short lists, of a few choices, come out as the chapter tells; so do they when they are applied one by one.
func TestAllShortLists(t *testing.T) {
	some := []api.Choice{fill(0), drop(0), fill(511), drop(511), fill(large), drop(large), fill(fresh), fill(512), drop(-1)}
	many := len(some)
	for run := range many * many * many * many {
		var l []api.Choice
		for n, rest := 0, run; n < 4; n, rest = n+1, rest/many {
			l = append(l, some[rest%many])
		}
		b, x := newDuo(t, usual(), 1), newDuo(t, usual(), 1)
		sum := 0
		for _, c := range l {
			sum += x.asks(c)
		}
		b.apply(sum, l...)
		b.knows(x.m.All()...)
	}
}

// luck tells numbers one behind the other, the same ones each time.
type luck uint64

func (l *luck) next(n int) int {
	*l = *l*6364136223846793005 + 1442695040888963407
	return int(uint64(*l) >> 33 % uint64(n))
}

// choices are so many, most of them right, and of a few pages.
func (l *luck) choices(many int) []api.Choice {
	var out []api.Choice
	for range many {
		page := []int{0, 1, 7, 63, 300, 301, 365, 510, 511, free, next, large, fresh}[l.next(13)]
		if l.next(4) == 0 {
			page = l.next(512)
		}
		if l.next(10) == 0 {
			page += 512*l.next(3) - 512
		}
		out = append(out, one(l.next(3) > 0, page))
	}
	return out
}

// words are a guest's, of many kinds of entries, most of them such that a walk goes on, and told as used.
func (l *luck) words() []uint64 {
	var out []uint64
	for range 8 * frames {
		v := of(l.next(frames), all|a)
		for _, c := range []struct {
			bit uint64
			one int
		}{{p, 30}, {w, 5}, {u, 5}, {a, 20}, {d, 3}, {nx, 6}, {ps, 10}, {1 << 9, 60}} {
			if l.next(c.one) == 0 {
				v ^= c.bit
			}
		}
		if l.next(5) == 0 {
			v &^= 7 << 12
		}
		out = append(out, v)
	}
	return out
}

// P11.1, P11.2: long lists, of many tables, come out as the chapter tells, and change no word.
func TestLongLists(t *testing.T) {
	l := luck(11)
	done, sum := 0, 0
	for range 200 {
		b := newDuo(t, l.words(), l.next(frames))
		was, hosts := b.mem.All(), b.hosts()
		for range 20 {
			list := l.choices(l.next(30))
			sum += len(list)
			done += b.asks(list...)
			if !slices.Equal(b.mem.All(), was) || !slices.Equal(b.hosts(), hosts) {
				t.Fatalf("Apply of %v has changed a word", list)
			}
		}
	}
	if done < sum/10 || done > sum*9/10 {
		t.Errorf("of %d choices %d did something", sum, done)
	}
}

// P11.2: no choice changes a word of the memory, of the guest's frames and of the host's others: not A, not D, and nothing in the page itself.
func TestNothingOfMemory(t *testing.T) {
	b := newDuo(t, usual(), 1)
	was, hosts := b.mem.All(), b.hosts()
	for page := -1; page < 513; page++ {
		for _, l := range [][]api.Choice{{fill(page)}, {fill(page)}, {drop(page)}, {drop(page)}, {fill(page), drop(page)}, {drop(page), fill(page)}} {
			b.asks(l...)
			if !slices.Equal(b.mem.All(), was) || !slices.Equal(b.hosts(), hosts) {
				t.Fatalf("Apply of %v has changed a word", l)
			}
		}
	}
	if len(b.m.All()) != len(paths()) {
		t.Errorf("of %d pages, %d are known", len(paths()), len(b.m.All()))
	}
}

// only are those of a list that are of a page.
func only(l []api.Choice, page int) []api.Choice {
	return slices.DeleteFunc(slices.Clone(l), func(c api.Choice) bool { return c.Page != page })
}

// P11.4: what is known of a page is the same as if the choices of that page alone were applied; they do something as often as there.
func TestEachPage(t *testing.T) {
	l := luck(12)
	for range 100 {
		words, root := l.words(), l.next(frames)
		if l.next(2) == 0 {
			words, root = usual(), 1
		}
		list := l.choices(40)
		b := newDuo(t, words, root)
		n := b.asks(list...)
		sum := 0
		for page := range 512 {
			x := newDuo(t, words, root)
			sum += x.asks(only(list, page)...)
			want, wantIs := x.m.Known(page)
			if h, is := b.m.Known(page); h != want || is != wantIs {
				t.Fatalf("behind %v, of the page %d there is known %+v, not %+v", list, page, h, want)
			}
		}
		if n != sum {
			t.Fatalf("%v did something %d times, page by page %d times", list, n, sum)
		}
	}
}

// P11.4: whatever is known of other pages ahead of it, and whatever stands between, a page comes out the same.
func TestOthersBetween(t *testing.T) {
	l := luck(13)
	for _, page := range []int{0, free, next, large, large + 1, larger, strict, fresh, 511} {
		for mask := range 16 {
			mine := []api.Choice{one(mask&1 > 0, page), one(mask&2 > 0, page), one(mask&4 > 0, page), one(mask&8 > 0, page)}
			x, b := newDuo(t, usual(), 1), newDuo(t, usual(), 1)
			x.asks(mine...)
			want, wantIs := x.m.Known(page)
			list := slices.DeleteFunc(l.choices(100), func(c api.Choice) bool { return c.Page == page })
			for n, c := range mine {
				list = slices.Insert(list, len(list)*(n+1)/5, c)
			}
			b.asks(list...)
			if h, is := b.m.Known(page); h != want || is != wantIs {
				t.Fatalf("behind %v, of the page %d there is known %+v, not %+v", list, page, h, want)
			}
		}
	}
}

// bytesOf are those of a right choice, as the chapter tells them.
func bytesOf(c api.Choice) []byte {
	high := c.Page / 256
	if c.Fill {
		high += 128
	}
	return []byte{byte(high), byte(c.Page % 256)}
}

// rights are all choices that are right.
func rights() []api.Choice {
	var l []api.Choice
	for page := range 512 {
		l = append(l, drop(page), fill(page))
	}
	return l
}

// gets tells where Get of bytes is not those choices.
func gets(t *testing.T, b []byte, want []api.Choice) {
	t.Helper()
	if l, e := choice.Get(b); !slices.Equal(l, want) || e != api.OK {
		t.Fatalf("Get of %x is %v, %v, not %v", b, l, e, want)
	}
}

// getsNone tells where Get of bytes is not ErrForm alone.
func getsNone(t *testing.T, b []byte) {
	t.Helper()
	if l, e := choice.Get(b); len(l) != 0 || e != api.ErrForm {
		t.Fatalf("Get of %x is %v, %v", b, l, e)
	}
}

// puts tells where Put of choices is not those bytes.
func puts(t *testing.T, l []api.Choice, want []byte) {
	t.Helper()
	if b := choice.Put(l); !bytes.Equal(b, want) {
		t.Fatalf("Put of %v is %x, not %x", l, b, want)
	}
}

// P11.1: K2, the bytes of some, as the document tells them, there and back.
func TestBytes(t *testing.T) {
	for _, c := range []struct {
		l []api.Choice
		b string
	}{
		{nil, ""}, {[]api.Choice{}, ""},
		{[]api.Choice{fill(3)}, "\x80\x03"}, {[]api.Choice{drop(3)}, "\x00\x03"},
		{[]api.Choice{drop(0)}, "\x00\x00"}, {[]api.Choice{fill(0)}, "\x80\x00"},
		{[]api.Choice{drop(255)}, "\x00\xff"}, {[]api.Choice{fill(255)}, "\x80\xff"},
		{[]api.Choice{drop(256)}, "\x01\x00"}, {[]api.Choice{fill(256)}, "\x81\x00"},
		{[]api.Choice{drop(511)}, "\x01\xff"}, {[]api.Choice{fill(511)}, "\x81\xff"},
		{[]api.Choice{drop(128), fill(128)}, "\x00\x80\x80\x80"},
		{[]api.Choice{fill(511), drop(0), drop(0), fill(300)}, "\x81\xff\x00\x00\x00\x00\x81\x2c"},
	} {
		puts(t, c.l, []byte(c.b))
		gets(t, []byte(c.b), c.l)
	}
	gets(t, nil, nil)
	gets(t, []byte{}, nil)
}

// P11.1, P11.3: K2, each right choice has its two bytes, and is got of them; all of them in a row, too.
func TestThereAndBack(t *testing.T) {
	var row []byte
	for _, c := range rights() {
		puts(t, []api.Choice{c}, bytesOf(c))
		gets(t, bytesOf(c), []api.Choice{c})
		row = append(row, bytesOf(c)...)
	}
	puts(t, rights(), row)
	gets(t, row, rights())
	l := luck(14)
	for many := range 200 {
		var list []api.Choice
		for range many {
			list = append(list, one(l.next(2) == 0, l.next(512)))
		}
		b := choice.Put(list)
		if len(b) != 2*many {
			t.Fatalf("the bytes of %d are %d", many, len(b))
		}
		gets(t, b, list)
	}
}

// P11.1, P11.3: K2, each two bytes are one right choice's, which has them, or nobody's.
func TestEachTwoBytes(t *testing.T) {
	many := 0
	for n := range 65536 {
		b := []byte{byte(n >> 8), byte(n)}
		if n%32768 >= 512 {
			getsNone(t, b)
			continue
		}
		many++
		l := []api.Choice{one(n >= 32768, n%32768)}
		gets(t, b, l)
		puts(t, l, b)
	}
	if many != 1024 {
		t.Errorf("%d are right", many)
	}
}

// P11.1, P2: K2, Get of bytes that are none's: of an odd number, or with two that are nobody's, wherever they stand: no choices, and ErrForm.
func TestGetOfNone(t *testing.T) {
	b := choice.Put([]api.Choice{fill(3), drop(300), fill(511), drop(0), fill(0)})
	for n := range len(b) + 1 {
		if n%2 == 1 {
			getsNone(t, b[:n])
		}
	}
	for n := range 256 {
		getsNone(t, []byte{byte(n)})
		getsNone(t, append(slices.Clone(b), byte(n)))
		getsNone(t, append([]byte{byte(n)}, b...))
	}
	for i := 0; i < len(b); i += 2 {
		for _, high := range []byte{2, 3, 4, 8, 16, 32, 64, 127, 130, 131, 192, 255} {
			for _, low := range []byte{0, 1, 255} {
				x := slices.Clone(b)
				x[i], x[i+1] = high, low
				getsNone(t, x)
				getsNone(t, slices.Insert(slices.Clone(b), i, high, low))
			}
		}
	}
	getsNone(t, append(b, 2, 0))
	getsNone(t, append(b, 255, 255))
}

// P11.1: K2, Put with one that is not right, wherever it stands: nothing.
func TestPutOfWrongOnes(t *testing.T) {
	list := []api.Choice{fill(3), drop(300), fill(511), drop(0), fill(0)}
	for _, page := range odd {
		if page >= 0 && page < 512 {
			continue
		}
		for _, is := range both {
			puts(t, []api.Choice{one(is, page)}, nil)
			puts(t, []api.Choice{one(is, page), one(is, page)}, nil)
			for i := range len(list) + 1 {
				puts(t, slices.Insert(slices.Clone(list), i, one(is, page)), nil)
			}
		}
	}
}

// roomy is a list with spare room, full of what nobody may touch.
func roomy[E any](l []E, spare E) []E {
	out := make([]E, len(l), len(l)+16)
	copy(out, l)
	for i := len(l); i < cap(out); i++ {
		out[:cap(out)][i] = spare
	}
	return out
}

// P3: what is handed in is not changed, nor its spare room, be it right or not.
func TestWhatIsHandedInStays(t *testing.T) {
	for _, l := range [][]api.Choice{nil, {fill(3)}, {fill(free), drop(free), fill(next)}, {fill(free), drop(512), fill(-1), drop(free)}} {
		list := roomy(l, drop(77))
		was := slices.Clone(list[:cap(list)])
		b := newDuo(t, usual(), 1)
		choice.Apply(b.m, list)
		choice.Put(list)
		if !slices.Equal(list[:cap(list)], was) {
			t.Fatalf("the choices became %v, from %v", list[:cap(list)], was)
		}
	}
	for _, l := range []string{"", "\x80\x03", "\x80\x03\x01\x2c\x81\xff", "\x80\x03\x02", "\x80\x03\x02\x00\x01\x00"} {
		b := roomy([]byte(l), 77)
		was := slices.Clone(b[:cap(b)])
		choice.Get(b)
		if !slices.Equal(b[:cap(b)], was) {
			t.Fatalf("the bytes became %x, from %x", b[:cap(b)], was)
		}
	}
}

// P3: what is handed in is not kept: who changes it behind the call changes nothing.
func TestWhatIsHandedInIsNotKept(t *testing.T) {
	list := []api.Choice{fill(free), fill(next)}
	x := newDuo(t, usual(), 1)
	choice.Apply(x.m, list)
	b := choice.Put(list)
	l, _ := choice.Get(b)
	list[0], list[1] = drop(next), fill(large)
	x.knows(hit(free, 8), hit(next, 12))
	if want := append(bytesOf(fill(free)), bytesOf(fill(next))...); !bytes.Equal(b, want) {
		t.Errorf("the bytes became %x, from %x", b, want)
	}
	clear(b)
	if want := []api.Choice{fill(free), fill(next)}; !slices.Equal(l, want) {
		t.Errorf("the choices became %v, from %v", l, want)
	}
}

// P3: a list that comes out is new memory, its spare room too: of two that come out alike, who changes one changes not the other, and none that comes out later.
func TestListsAreNewMemory(t *testing.T) {
	for many := range 40 {
		list := rights()[:many]
		b, c := choice.Put(list), choice.Put(list)
		want := slices.Clone(c[:cap(c)])
		for i := range b[:cap(b)] {
			b[:cap(b)][i] = 0x99
		}
		if !slices.Equal(c[:cap(c)], want) {
			t.Fatalf("the other bytes became %x, from %x", c[:cap(c)], want)
		}
		puts(t, list, want[:2*many])
		l, _ := choice.Get(c)
		m, _ := choice.Get(c)
		room := slices.Clone(m[:cap(m)])
		for i := range l[:cap(l)] {
			l[:cap(l)][i] = fill(-7)
		}
		if !slices.Equal(m[:cap(m)], room) || !slices.Equal(m, list) {
			t.Fatalf("the other choices became %v, from %v", m[:cap(m)], room)
		}
		gets(t, c, list)
	}
}

// P3: what Apply does hangs on the machine that it is handed alone: two machines do not touch one another.
func TestTwoMachines(t *testing.T) {
	b, c := newDuo(t, usual(), 1), newDuo(t, usual(), 1)
	b.apply(2, fill(free), fill(next))
	c.knows()
	c.apply(1, fill(next), drop(free))
	b.knows(hit(free, 8), hit(next, 12))
	b.apply(1, drop(next))
	c.knows(hit(next, 12))
}

// P1: no call panics, at all arguments.
func TestNothingPanics(t *testing.T) {
	b := newDuo(t, usual(), 1)
	for _, page := range odd {
		for _, other := range odd {
			for _, is := range both {
				l := []api.Choice{one(is, page), one(!is, other)}
				b.asks(l...)
				choice.Right(l[0])
				choice.Put(l)
				choice.Get([]byte{byte(page), byte(other), byte(page >> 8), byte(other >> 8)})
			}
		}
	}
}
