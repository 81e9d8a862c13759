package model_test

import (
	"math"
	"slices"
	"testing"

	"silhouette/api"
	"silhouette/frame"
	"silhouette/gmap"
	"silhouette/guest"
	"silhouette/model"
	"silhouette/walk"
)

// odd are numbers about every edge.
var odd = []int{math.MinInt, math.MinInt + 1, math.MinInt32, -1 << 32, -1<<32 + 1, -513, -512, -511, -65, -64, -9, -8, -7, -2, -1, 0, 1, 2, 3, 4, 7, 8, 9, 15, 16, 63, 64, 65, 255, 256, 511, 512, 513, 1<<20 - 1, 1 << 20, math.MaxInt32, 1 << 32, 1<<32 + 1, 1 << 61, 1 << 62, math.MaxInt - 1, math.MaxInt}

// both are what a bool may be.
var both = []bool{false, true}

// kinds are those that there are, noKinds are none.
var (
	kinds   = []int{api.Load, api.Store, api.Exec}
	noKinds = []int{math.MinInt, math.MinInt + 1, math.MinInt + 2, -1 << 32, -256, -255, -254, -3, -2, -1, 3, 4, 5, 16, 256, 257, 258, 1 << 32, 1<<32 + 1, 1<<32 + 2, math.MaxInt - 1, math.MaxInt}
)

// Bits of entries, as the document tells them; all are those of an entry that permits everything.
const (
	p   = 1
	w   = 2
	u   = 4
	a   = 32
	d   = 64
	ps  = 128
	nx  = 1 << 63
	all = p | w | u
)

// every is a right to do everything.
var every = api.Right{W: true, U: true, X: true}

// of is a word of the frame g, that has those bits.
func of(g int, bits uint64) uint64 { return uint64(g)<<12 | bits }

// at is the canonical address of a word of a page from 0 to 511: those from 256 on have all bits above them.
func at(page, word int) uint64 {
	n := uint64(page*64 + word*8)
	if page >= 256 {
		n -= 1 << 15
	}
	return n
}

// word is one of a guest's, and what it is.
type word struct {
	g, i int
	v    uint64
}

// lying is a guest of so many frames of zeros, that lie backwards and with holes in a host's, but for those words.
func lying(t *testing.T, frames int, l ...word) *guest.Mem {
	t.Helper()
	var places []int
	for g := range frames {
		places = append(places, 2*frames-1-2*g)
	}
	m := gmap.New(places, api.MaxHost)
	if m == nil {
		t.Fatalf("there is no map of %d frames", frames)
	}
	return set(t, guest.New(frame.New(2*frames), m), l...)
}

// set has words of m be others.
func set(t *testing.T, m *guest.Mem, l ...word) *guest.Mem {
	t.Helper()
	for _, x := range l {
		if !m.Set(x.g, x.i, x.v) {
			t.Fatalf("there is no word %d, %d", x.g, x.i)
		}
	}
	return m
}

// code is that of a fault, as the chapter of the rights tells it.
func code(kind int, user, there, bad bool) int {
	n := 0
	if there {
		n++
	}
	if kind == 1 {
		n += 2
	}
	if user {
		n += 4
	}
	if there && bad {
		n += 8
	}
	if kind == 2 {
		n += 16
	}
	return n
}

// may says whether a kind of access is permitted.
func may(r api.Right, kind int, user bool) bool {
	return kind >= 0 && kind <= 2 && (!user || r.U) && (kind != 1 || r.W) && (kind != 2 || r.X)
}

// place is the page's in a table of a level: its three digits of 0 to 7, of the page modulo 512.
func place(page, level int) int {
	n := (page%512 + 512) % 512
	return [...]int{0, n % 8, n / 8 % 8, n / 64}[level]
}

// plain is a model as the chapter tells it: all words of a memory, a root, and what is known, in the order in which it was found.
type plain struct {
	words []uint64
	root  int
	hits  []api.Hit
}

// way is what a walk finds: where in all words its entries stand, and the rest.
type way struct {
	ats       []int
	g         int
	r         api.Right
	dirty     bool
	how, code int
}

func (m *plain) walk(page, kind int, user bool) way {
	x := way{r: every}
	g := m.root
	for level := 3; ; level-- {
		if g < 0 || g >= len(m.words)/8 {
			return way{how: 3}
		}
		i := 8*g + place(page, level)
		v := m.words[i]
		x.ats = append(x.ats, i)
		if v%2 == 0 {
			return way{how: 1, code: code(kind, user, false, false)}
		}
		g = int(v >> 12 & 0xfffff)
		large := v&ps != 0
		if v&^(all|a|d|ps|nx|0xfffff000) != 0 || large && level != 2 || large && g%8 != 0 {
			return way{how: 1, code: code(kind, user, true, true)}
		}
		x.r.W, x.r.U, x.r.X = x.r.W && v&w != 0, x.r.U && v&u != 0, x.r.X && v&nx == 0
		if large {
			g += place(page, 1)
		}
		if large || level == 1 {
			x.g, x.dirty = g, v&d != 0
			break
		}
	}
	if !may(x.r, kind, user) {
		return way{how: 1, code: code(kind, user, true, false)}
	}
	if x.g >= len(m.words)/8 {
		return way{how: 3}
	}
	return x
}

func (m *plain) known(page int) (api.Hit, bool) {
	for _, h := range m.hits {
		if h.Page == page {
			return h, true
		}
	}
	return api.Hit{}, false
}

func (m *plain) forget(page int) bool {
	n := len(m.hits)
	m.hits = slices.DeleteFunc(m.hits, func(h api.Hit) bool { return h.Page == page })
	return len(m.hits) < n
}

func (m *plain) learn(page int, x way, written bool) api.Hit {
	if len(m.hits) == 512 {
		m.hits = m.hits[1:]
	}
	h := api.Hit{Page: page, Frame: x.g, Right: x.r, Dirty: x.dirty || written}
	m.hits = append(m.hits, h)
	return h
}

func (m *plain) access(kind int, user bool, addr, v uint64) api.Out {
	if addr%8 != 0 {
		return api.Out{How: 4, Addr: addr}
	}
	if above := addr >> 14; above != 0 && above != 1<<50-1 {
		return api.Out{How: 2, Addr: addr}
	}
	page := int(addr / 64 % 512)
	h, is := m.known(page)
	if !is || !may(h.Right, kind, user) || kind == 1 && !h.Dirty {
		m.forget(page)
		x := m.walk(page, kind, user)
		if x.how != 0 {
			return api.Out{How: x.how, Code: x.code, Addr: addr}
		}
		for n, i := range x.ats {
			m.words[i] |= a
			if kind == 1 && n == len(x.ats)-1 {
				m.words[i] |= d
			}
		}
		h = m.learn(page, x, kind == 1)
	}
	i := 8*h.Frame + int(addr/8%8)
	if kind == 1 {
		m.words[i] = v
		return api.Out{}
	}
	return api.Out{V: m.words[i]}
}

func (m *plain) edit(g, i int, v uint64) api.Out {
	if g < 0 || g >= len(m.words)/8 || i < 0 || i > 7 {
		return api.Out{How: 3}
	}
	m.words[8*g+i] = v
	return api.Out{}
}

func (m *plain) find(page int) bool {
	if _, is := m.known(page); is {
		return false
	}
	x := m.walk(page, 0, false)
	if x.how != 0 || slices.ContainsFunc(x.ats, func(i int) bool { return m.words[i]&a == 0 }) {
		return false
	}
	m.learn(page, x, false)
	return true
}

// duo is a model, and a plain one of the same words: what is asked of both must come out the same, and leave the same behind.
type duo struct {
	t *testing.T
	m *guest.Mem
	x *model.Model
	p *plain
}

func newDuo(t *testing.T, m *guest.Mem, root int) *duo {
	t.Helper()
	x := model.New(m, root)
	if x == nil {
		t.Fatal("New is nil")
	}
	return &duo{t, m, x, &plain{words: m.All(), root: root}}
}

// holds tells where the model has other words than the plain one, or knows something else; of the pages about those that are known, too.
func (b *duo) holds() {
	b.t.Helper()
	if l := b.m.All(); !slices.Equal(l, b.p.words) {
		b.t.Fatalf("the words are %x, not %x", l, b.p.words)
	}
	if l := b.x.All(); !slices.Equal(l, b.p.hits) {
		b.t.Fatalf("All is %+v, not %+v", l, b.p.hits)
	}
	pages := []int{0, 511, -1, 512}
	for _, h := range b.p.hits {
		pages = append(pages, h.Page-1, h.Page, h.Page+1, h.Page-512, h.Page+512, h.Page^256, h.Frame)
	}
	b.knowns(pages)
}

// knowns tells where something else is known of a page.
func (b *duo) knowns(pages []int) {
	b.t.Helper()
	for _, page := range pages {
		want, wantIs := b.p.known(page)
		if h, is := b.x.Known(page); h != want || is != wantIs {
			b.t.Fatalf("Known(%d) is %+v, %t, not %+v, %t", page, h, is, want, wantIs)
		}
	}
}

// knows tells where All is not those hits.
func (b *duo) knows(want ...api.Hit) {
	b.t.Helper()
	if l := b.x.All(); !slices.Equal(l, want) {
		b.t.Fatalf("All is %+v, not %+v", l, want)
	}
}

// asks does an access.
func (b *duo) asks(kind int, user bool, addr, v uint64) api.Out {
	b.t.Helper()
	want := b.p.access(kind, user, addr, v)
	if o := b.x.Access(kind, user, addr, v); o != want {
		b.t.Fatalf("Access(%d, %t, %x, %x) is %+v, not %+v", kind, user, addr, v, o, want)
	}
	b.holds()
	return want
}

// access does one, that must come out so.
func (b *duo) access(kind int, user bool, addr, v uint64, want api.Out) {
	b.t.Helper()
	if o := b.asks(kind, user, addr, v); o != want {
		b.t.Fatalf("Access(%d, %t, %x, %x) is %+v, not %+v", kind, user, addr, v, o, want)
	}
}

// loads does a Load by the system, of the word 0 of a page, that must be v; stores does a Store there, that must be done.
func (b *duo) loads(page int, v uint64) {
	b.t.Helper()
	b.access(api.Load, false, at(page, 0), 0, api.Out{V: v})
}

func (b *duo) stores(page int, v uint64) {
	b.t.Helper()
	b.access(api.Store, false, at(page, 0), v, api.Out{})
}

// fails does an access that must come out so, with the address, and change no word, whatever page is forgotten.
func (b *duo) fails(kind int, user bool, addr uint64, how, code int) {
	b.t.Helper()
	was := b.m.All()
	b.access(kind, user, addr, 0xbad, api.Out{How: how, Code: code, Addr: addr})
	if !slices.Equal(b.m.All(), was) {
		b.t.Fatalf("Access(%d, %t, %x) that is not done has changed a word", kind, user, addr)
	}
}

// edit does one, that must be done.
func (b *duo) edit(g, i int, v uint64) {
	b.t.Helper()
	if b.asksEdit(g, i, v) != (api.Out{}) {
		b.t.Fatalf("Edit(%d, %d) is not done", g, i)
	}
}

func (b *duo) asksEdit(g, i int, v uint64) api.Out {
	b.t.Helper()
	want := b.p.edit(g, i, v)
	if o := b.x.Edit(g, i, v); o != want {
		b.t.Fatalf("Edit(%d, %d, %x) is %+v, not %+v", g, i, v, o, want)
	}
	b.holds()
	return want
}

func (b *duo) asksForget(page int) bool {
	b.t.Helper()
	want := b.p.forget(page)
	if is := b.x.Forget(page); is != want {
		b.t.Fatalf("Forget(%d) is %t", page, is)
	}
	b.holds()
	return want
}

func (b *duo) forget(page int, want bool) {
	b.t.Helper()
	if b.asksForget(page) != want {
		b.t.Fatalf("Forget(%d) is %t", page, !want)
	}
}

func (b *duo) asksFind(page int) bool {
	b.t.Helper()
	was := b.m.All()
	want := b.p.find(page)
	if is := b.x.Find(page); is != want {
		b.t.Fatalf("Find(%d) is %t", page, is)
	}
	if !slices.Equal(b.m.All(), was) {
		b.t.Fatalf("Find(%d) has changed a word", page)
	}
	b.holds()
	return want
}

func (b *duo) find(page int, want bool) {
	b.t.Helper()
	if b.asksFind(page) != want {
		b.t.Fatalf("Find(%d) is %t", page, !want)
	}
}

// root has it be another one: nothing is known behind it, and no word has changed.
func (b *duo) root(g int) {
	b.t.Helper()
	was := b.m.All()
	b.p.root, b.p.hits = g, nil
	b.x.Root(g)
	if len(b.x.All()) != 0 || !slices.Equal(b.m.All(), was) {
		b.t.Fatalf("behind Root(%d) something is known, or a word has changed", g)
	}
	b.holds()
}

// is tells where a word is another one.
func (b *duo) is(g, i int, want uint64) {
	b.t.Helper()
	if v, is := b.m.Get(g, i); v != want || !is {
		b.t.Fatalf("the word %d, %d is %x, not %x", g, i, v, want)
	}
}

// same tells where words are others than they were, but for those.
func (b *duo) same(was []uint64, but ...word) {
	b.t.Helper()
	want := slices.Clone(was)
	for _, x := range but {
		want[8*x.g+x.i] = x.v
	}
	if l := b.m.All(); !slices.Equal(l, want) {
		b.t.Fatalf("the words are %x, not %x", l, want)
	}
}

// Pages of the guest that usual makes: they go by the frames 1, 4 and 7, and the last place tells which entry of 7 they have; large is the first one of a large page, by the frames 1 and 4.
const (
	low   = 5*64 + 3*8
	none  = low + 0 // there is no entry
	still = low + 1 // the frame 8, that may be written by nobody
	ours  = low + 2 // the frame 9, but not for users
	data  = low + 3 // the frame 10, that may not be run
	gone  = low + 4 // a frame that the guest has not
	first = low + 5 // the frame 7: the page's own table of the level 1
	plan  = low + 6 // the frame 11, that permits everything
	next  = low + 7 // the frame 12, the same
	large = 5*64 + 2*8
)

// usual is a model of a guest of 24 frames, and the root 1, whose entry of the place 5 tells the frame 4, as that of the root 2 does; the words 0 of the frames 8 to 23 are 100 more than their frames' numbers.
func usual(t *testing.T) *duo {
	t.Helper()
	m := lying(t, 24,
		word{1, 5, of(4, all)}, word{2, 5, of(4, all)}, word{4, 3, of(7, all)}, word{4, 2, of(16, all|ps)},
		word{7, 1, of(8, p|u)}, word{7, 2, of(9, p|w)}, word{7, 3, of(10, all|nx)}, word{7, 4, of(900, all)}, word{7, 5, of(7, all)}, word{7, 6, of(11, all)}, word{7, 7, of(12, all)})
	for g := 8; g < 24; g++ {
		set(t, m, word{g, 0, uint64(100 + g)})
	}
	return newDuo(t, m, 1)
}

// P10.1: J1, New: nothing is known of any page, and no word has changed, whatever the root.
func TestNewKnowsNothing(t *testing.T) {
	for _, root := range odd {
		m := usual(t).m
		was := m.All()
		b := newDuo(t, m, root)
		b.knows()
		for page := -600; page < 1200; page++ {
			b.knowns([]int{page})
			b.forget(page, false)
		}
		b.knowns(odd)
		b.same(was)
	}
}

// P10.1: J2, a Load, by a user and by the system: the word, A along the walk, and a hit that is not Dirty.
func TestLoad(t *testing.T) {
	for _, user := range both {
		b := usual(t)
		set(t, b.m, word{11, 7, math.MaxUint64})
		b = newDuo(t, b.m, 1)
		was := b.m.All()
		b.access(api.Load, user, at(plan, 7), 5, api.Out{V: math.MaxUint64})
		b.same(was, word{1, 5, of(4, all|a)}, word{4, 3, of(7, all|a)}, word{7, 6, of(11, all|a)})
		b.knows(api.Hit{Page: plan, Frame: 11, Right: every})
		b.access(api.Load, user, at(plan, 0), 5, api.Out{V: 111})
		b.knows(api.Hit{Page: plan, Frame: 11, Right: every})
	}
}

// P10.1: J2, an Exec: as a Load is.
func TestExec(t *testing.T) {
	for _, user := range both {
		b := usual(t)
		was := b.m.All()
		b.access(api.Exec, user, at(still, 0), 5, api.Out{V: 108})
		b.same(was, word{1, 5, of(4, all|a)}, word{4, 3, of(7, all|a)}, word{7, 1, of(8, p|u|a)})
		b.knows(api.Hit{Page: still, Frame: 8, Right: api.Right{U: true, X: true}})
	}
}

// P10.1: J2, a Store: the word is v, A along the walk, D of the last entry alone, and a hit that is Dirty; the answer has no value.
func TestStore(t *testing.T) {
	for _, user := range both {
		b := usual(t)
		was := b.m.All()
		b.access(api.Store, user, at(data, 3), 77, api.Out{})
		b.same(was, word{1, 5, of(4, all|a)}, word{4, 3, of(7, all|a)}, word{7, 3, of(10, all|nx|a|d)}, word{10, 3, 77})
		b.knows(api.Hit{Page: data, Frame: 10, Right: api.Right{W: true, U: true}, Dirty: true})
		b.access(api.Store, user, at(data, 3), 0, api.Out{})
		b.access(api.Load, user, at(data, 3), 9, api.Out{})
		b.access(api.Load, user, at(data, 0), 9, api.Out{V: 110})
	}
}

// P10.1: J2, each word of a page, the first and the last one among them, is that one alone.
func TestEachWordOfAPage(t *testing.T) {
	b := usual(t)
	for i := range 8 {
		b.access(api.Store, true, at(plan, i), uint64(1000+i), api.Out{})
		b.is(11, i, uint64(1000+i))
	}
	for i := range 8 {
		b.access(api.Load, true, at(plan, i), 0, api.Out{V: uint64(1000 + i)})
		b.access(api.Exec, false, at(plan, i), 0, api.Out{V: uint64(1000 + i)})
	}
}

// P10.1: J2, a large page: each of its eight pages has a frame and a hit of its own, and its two entries are marked.
func TestLargePage(t *testing.T) {
	for n := range 8 {
		b := usual(t)
		was := b.m.All()
		b.loads(large+n, uint64(116+n))
		b.same(was, word{1, 5, of(4, all|a)}, word{4, 2, of(16, all|ps|a)})
		b.stores(large+n, 7)
		b.same(was, word{1, 5, of(4, all|a)}, word{4, 2, of(16, all|ps|a|d)}, word{16 + n, 0, 7})
		b.knows(api.Hit{Page: large + n, Frame: 16 + n, Right: every, Dirty: true})
	}
	b := usual(t)
	hit := func(n int, dirty bool) api.Hit {
		return api.Hit{Page: large + n, Frame: 16 + n, Right: every, Dirty: dirty}
	}
	for n := range 8 {
		b.loads(large+n, uint64(116+n))
	}
	b.knows(hit(0, false), hit(1, false), hit(2, false), hit(3, false), hit(4, false), hit(5, false), hit(6, false), hit(7, false))
	b.stores(large+2, 7)
	b.forget(large+5, true)
	b.loads(large+5, 121)
	b.knows(hit(0, false), hit(1, false), hit(3, false), hit(4, false), hit(6, false), hit(7, false), hit(2, true), hit(5, true))
}

// P10.1: J2, entries that two pages share: a Store to one of them marks no last entry but its own; two that share their last one, by two tables, share D.
func TestSharedEntries(t *testing.T) {
	b := usual(t)
	was := b.m.All()
	b.stores(plan, 1)
	b.loads(next, 112)
	b.same(was, word{1, 5, of(4, all|a)}, word{4, 3, of(7, all|a)}, word{7, 6, of(11, all|a|d)}, word{7, 7, of(12, all|a)}, word{11, 0, 1})
	b.knows(api.Hit{Page: plan, Frame: 11, Right: every, Dirty: true}, api.Hit{Page: next, Frame: 12, Right: every})
	b.edit(1, 0, of(4, p))
	other := plan - 5*64
	b.loads(other, 1)
	b.knows(api.Hit{Page: plan, Frame: 11, Right: every, Dirty: true}, api.Hit{Page: next, Frame: 12, Right: every}, api.Hit{Page: other, Frame: 11, Right: api.Right{X: true}, Dirty: true})
	b.fails(api.Store, false, at(other, 0), api.Fault, 3)
	b.fails(api.Load, true, at(other, 0), api.Fault, 5)
	b.knows(api.Hit{Page: plan, Frame: 11, Right: every, Dirty: true}, api.Hit{Page: next, Frame: 12, Right: every})
}

// P10.1: J2, an address that is not aligned is Align, canonical or not, of each kind and of none; with the address, and nothing else.
func TestNotAligned(t *testing.T) {
	b := usual(t)
	b.stores(plan, 1)
	b.loads(next, 112)
	for _, base := range []uint64{0, at(plan, 0), at(next, 3), at(none, 0), at(gone, 0), 1<<14 - 8, 1 << 14, 1 << 15, 1 << 20, 1 << 63, 1<<64 - 1<<14, 1<<64 - 1<<14 - 8, at(plan, 0) ^ 1<<40, math.MaxUint64 - 7} {
		for n := uint64(1); n < 8; n++ {
			for _, kind := range append([]int{-1, 3}, kinds...) {
				for _, user := range both {
					b.fails(kind, user, base+n, api.Align, 0)
				}
			}
		}
	}
	b.fails(api.Load, true, 4, api.Align, 0)
	b.knows(api.Hit{Page: plan, Frame: 11, Right: every, Dirty: true}, api.Hit{Page: next, Frame: 12, Right: every})
}

// P10.1: J2, an address that is aligned and not canonical is General, of each kind and of none; what is known of the page that its bits tell is known on.
func TestNotCanonical(t *testing.T) {
	b := usual(t)
	b.stores(plan, 1)
	b.loads(next, 112)
	addrs := []uint64{1 << 14, 1<<15 - 8, 1 << 15, 1<<20 + 8, 1 << 62, 1 << 63, 1<<64 - 1<<14 - 8, 1<<64 - 1<<15, 1<<64 - 1<<16, math.MaxUint64>>1 - 7}
	for n := 15; n < 64; n++ {
		addrs = append(addrs, 1<<n, at(plan, 0)^1<<n, at(next, 3)^1<<n)
	}
	for _, addr := range append(addrs, at(plan, 0)&(1<<15-1), at(plan, 0)^1<<14, at(5, 5)^1<<14) {
		for _, kind := range append([]int{-1, 3}, kinds...) {
			for _, user := range both {
				b.fails(kind, user, addr, api.General, 0)
			}
		}
	}
	b.knows(api.Hit{Page: plan, Frame: 11, Right: every, Dirty: true}, api.Hit{Page: next, Frame: 12, Right: every})
}

// each is a model of a guest in which each page has a path: from the root 0, by the frames 1 to 8, and 9 to 16, to the frames 17 to 24; the entry at a place i goes on to the i-th of these.
func each(t *testing.T, bits uint64) *duo {
	t.Helper()
	m := lying(t, 25)
	for i := range 8 {
		set(t, m, word{0, i, of(1+i, bits)})
		for n := range 8 {
			set(t, m, word{1 + n, i, of(9+i, bits)}, word{9 + n, i, of(17+i, bits)}, word{17 + n, i, uint64(100*n + i)})
		}
	}
	return newDuo(t, m, 0)
}

// P10.1: J2, the first and the last canonical addresses of both halves are of their pages; those next to them are General.
func TestFirstAndLastCanonical(t *testing.T) {
	for _, c := range []struct {
		addr       uint64
		page, word int
	}{{0, 0, 0}, {1<<14 - 8, 255, 7}, {0xffffffffffffc000, 256, 0}, {0xfffffffffffffff8, 511, 7}, {8, 0, 1}, {1<<14 - 64, 255, 0}, {0xffffffffffffc038, 256, 7}, {0xffffffffffffffc0, 511, 0}} {
		b := each(t, all)
		g := 17 + c.page%8
		b.access(api.Load, true, c.addr, 0, api.Out{V: uint64(100*(c.page%8) + c.word)})
		b.knows(api.Hit{Page: c.page, Frame: g, Right: every})
		b.access(api.Store, true, c.addr, 9, api.Out{})
		b.is(g, c.word, 9)
		b.is(0, c.page/64, of(1+c.page/64, all|a))
		b.knows(api.Hit{Page: c.page, Frame: g, Right: every, Dirty: true})
	}
	b := each(t, all)
	b.fails(api.Load, true, 1<<14, api.General, 0)
	b.fails(api.Load, true, 0xffffffffffffbff8, api.General, 0)
	b.knows()
}

// P10.1: J2, all 512 pages may be known at once, in the order in which they were found.
func TestEachPage(t *testing.T) {
	b := each(t, p)
	var want []api.Hit
	for n := range 512 {
		page := n * 37 % 512
		if o := b.x.Access(api.Load, false, at(page, 2), 0); o != b.p.access(api.Load, false, at(page, 2), 0) || o.V != uint64(100*(page%8)+2) {
			t.Fatalf("of the page %d: %+v", page, o)
		}
		want = append(want, api.Hit{Page: page, Frame: 17 + page%8, Right: api.Right{X: true}})
	}
	b.holds()
	b.knows(want...)
	b.forget(want[100].Page, true)
	b.loads(want[100].Page, uint64(100*(want[100].Page%8)))
	b.knows(append(slices.Delete(slices.Clone(want), 100, 101), want[100])...)
}

// P10.1, P10.4: J2, a hit that serves: the access is done by it, whatever the tables say, of each kind that it permits; no entry is marked, and All's order stays.
func TestHitThatServes(t *testing.T) {
	b := usual(t)
	b.stores(plan, 1)
	b.loads(next, 112)
	b.edit(7, 6, 0)
	b.edit(1, 5, of(900, all))
	for _, user := range both {
		was := b.m.All()
		b.access(api.Load, user, at(plan, 0), 5, api.Out{V: 1})
		b.access(api.Exec, user, at(plan, 0), 5, api.Out{V: 1})
		b.access(api.Load, user, at(next, 0), 5, api.Out{V: 112})
		b.access(api.Exec, user, at(next, 0), 5, api.Out{V: 112})
		b.same(was)
		b.access(api.Store, user, at(plan, 4), 5, api.Out{})
		b.same(was, word{11, 4, 5})
		b.edit(11, 4, 0)
	}
	b.knows(api.Hit{Page: plan, Frame: 11, Right: every, Dirty: true}, api.Hit{Page: next, Frame: 12, Right: every})
	b.forget(plan, true)
	b.fails(api.Load, false, at(plan, 0), api.Bus, 0)
	b.edit(1, 5, of(4, all))
	b.fails(api.Load, false, at(plan, 0), api.Fault, 0)
	b.edit(7, 6, of(13, all))
	b.loads(plan, 113)
	b.knows(api.Hit{Page: next, Frame: 12, Right: every}, api.Hit{Page: plan, Frame: 13, Right: every})
}

// P10.4: behind an access, each of the entries that it went by may be any: what is known is used till it is forgotten, and the walk behind that is of the words as they are.
func TestAsKnownWhateverTheTablesSay(t *testing.T) {
	for _, place := range []word{{g: 1, i: 5}, {g: 4, i: 3}, {g: 7, i: 6}} {
		for _, v := range []uint64{0, 8 | all, of(900, all), of(4, all), of(7, all), of(13, all), of(13, p), of(13, all|ps), of(16, all|ps), math.MaxUint64} {
			for _, kind := range kinds {
				b := usual(t)
				b.access(kind, true, at(plan, 1), 0, api.Out{})
				hit, _ := b.x.Known(plan)
				b.edit(place.g, place.i, v)
				b.access(kind, true, at(plan, 1), 5, api.Out{})
				b.access(api.Load, false, at(plan, 0), 0, api.Out{V: 111})
				b.is(place.g, place.i, v)
				b.knows(hit)
				b.find(plan, false)
				b.forget(plan, true)
				b.asks(kind, true, at(plan, 1), 6)
			}
		}
	}
}

// P10.1: J2, a hit whose rights do not permit the access: the page is forgotten, and a walk of the tables as they are says how it comes out, be it done or not.
func TestHitThatDoesNotPermit(t *testing.T) {
	for _, c := range []struct {
		page, i, g, kind int
		user             bool
		code             int
	}{{still, 1, 8, api.Store, false, 3}, {still, 1, 8, api.Store, true, 7}, {ours, 2, 9, api.Load, true, 5}, {ours, 2, 9, api.Exec, true, 21}, {ours, 2, 9, api.Store, true, 7}, {data, 3, 10, api.Exec, false, 17}, {data, 3, 10, api.Exec, true, 21}} {
		b := usual(t)
		b.loads(c.page, uint64(100+c.g))
		b.fails(c.kind, c.user, at(c.page, 0), api.Fault, c.code)
		b.knows()
		b.loads(c.page, uint64(100+c.g))
		b.edit(7, c.i, 0)
		b.fails(c.kind, c.user, at(c.page, 0), api.Fault, c.code-1)
		b.knows()
		b.edit(7, c.i, of(c.g, p))
		b.loads(next, 112)
		b.loads(c.page, uint64(100+c.g))
		b.loads(plan, 111)
		b.edit(7, c.i, of(13, all))
		want := api.Out{V: 113}
		if c.kind == api.Store {
			want = api.Out{}
		}
		if c.kind == api.Exec && !c.user {
			want = api.Out{V: uint64(100 + c.g)}
		}
		b.access(c.kind, c.user, at(c.page, 0), 4, want)
	}
}

// P10.1: J2, the same, with a hit of other pages before and behind it: it alone is forgotten, and the new one is the last.
func TestHitIsFoundAnewAsTheLastOne(t *testing.T) {
	b := usual(t)
	b.loads(next, 112)
	b.loads(ours, 109)
	b.loads(plan, 111)
	b.edit(7, 2, of(13, p|u|nx))
	b.loads(ours, 109)
	b.access(api.Load, true, at(ours, 0), 0, api.Out{V: 113})
	b.is(7, 2, of(13, p|u|nx|a))
	b.knows(api.Hit{Page: next, Frame: 12, Right: every}, api.Hit{Page: plan, Frame: 11, Right: every}, api.Hit{Page: ours, Frame: 13, Right: api.Right{U: true}})
	b.fails(api.Exec, true, at(ours, 0), api.Fault, 21)
	b.knows(api.Hit{Page: next, Frame: 12, Right: every}, api.Hit{Page: plan, Frame: 11, Right: every})
}

// P10.1: J2, a Store by a hit that is not Dirty: the page is forgotten and walked anew, D is told, and the hit is Dirty, as the last one.
func TestStoreByAHitThatIsNotDirty(t *testing.T) {
	for _, user := range both {
		b := usual(t)
		b.access(api.Load, user, at(plan, 0), 0, api.Out{V: 111})
		b.loads(next, 112)
		was := b.m.All()
		b.access(api.Store, user, at(plan, 0), 9, api.Out{})
		b.same(was, word{7, 6, of(11, all|a|d)}, word{11, 0, 9})
		b.knows(api.Hit{Page: next, Frame: 12, Right: every}, api.Hit{Page: plan, Frame: 11, Right: every, Dirty: true})
	}
	b := usual(t)
	b.loads(plan, 111)
	b.edit(7, 6, of(13, all))
	b.stores(plan, 9)
	b.is(11, 0, 111)
	b.is(13, 0, 9)
	b.is(7, 6, of(13, all|a|d))
	b.knows(api.Hit{Page: plan, Frame: 13, Right: every, Dirty: true})
}

// P10.1: J2, a Store by a hit that is not Dirty, whose walk is not Done then: the page is forgotten all the same, and no word has changed.
func TestStoreByAHitThatIsNotDirtyAndIsNotDone(t *testing.T) {
	for _, c := range []struct {
		v         uint64
		how, code int
	}{{0, api.Fault, 6}, {of(11, p|u), api.Fault, 7}, {of(11, p|w), api.Fault, 7}, {of(11, all|8), api.Fault, 15}, {of(11, all|ps), api.Fault, 15}, {of(24, all), api.Bus, 0}} {
		b := usual(t)
		b.loads(next, 112)
		b.access(api.Load, true, at(plan, 0), 0, api.Out{V: 111})
		b.edit(7, 6, c.v)
		b.access(api.Load, true, at(plan, 0), 0, api.Out{V: 111})
		b.fails(api.Store, true, at(plan, 0), c.how, c.code)
		b.knows(api.Hit{Page: next, Frame: 12, Right: every})
		b.forget(plan, false)
	}
}

// P10.1: J2, a hit of a Load is Dirty, if the last entry has D: a Store is done by it then, without a walk, and with no mark.
func TestLoadOfWhatIsToldAsWrittenTo(t *testing.T) {
	for _, kind := range []int{api.Load, api.Exec} {
		b := usual(t)
		b.edit(7, 6, of(11, all|d))
		b.access(kind, true, at(plan, 0), 0, api.Out{V: 111})
		b.is(7, 6, of(11, all|a|d))
		b.knows(api.Hit{Page: plan, Frame: 11, Right: every, Dirty: true})
		b.edit(7, 6, of(13, all))
		was := b.m.All()
		b.access(api.Store, true, at(plan, 0), 5, api.Out{})
		b.same(was, word{11, 0, 5})
		b.edit(1, 5, of(4, all|d))
		b.edit(4, 3, of(7, all|d))
		b.forget(plan, true)
		b.access(kind, true, at(plan, 0), 0, api.Out{V: 113})
		b.knows(api.Hit{Page: plan, Frame: 13, Right: every})
	}
}

// P10.1: J2, an access that is not Done, of a page of which nothing is known: how, the code, and the address; no word has changed, and nothing is known.
func TestNotDone(t *testing.T) {
	for _, c := range []struct {
		page, kind int
		user       bool
		how, code  int
	}{
		{none, api.Load, false, api.Fault, 0}, {none, api.Load, true, api.Fault, 4}, {none, api.Store, false, api.Fault, 2}, {none, api.Store, true, api.Fault, 6}, {none, api.Exec, false, api.Fault, 16}, {none, api.Exec, true, api.Fault, 20},
		{still, api.Store, false, api.Fault, 3}, {still, api.Store, true, api.Fault, 7},
		{ours, api.Load, true, api.Fault, 5}, {ours, api.Store, true, api.Fault, 7}, {ours, api.Exec, true, api.Fault, 21},
		{data, api.Exec, false, api.Fault, 17}, {data, api.Exec, true, api.Fault, 21},
		{gone, api.Load, true, api.Bus, 0}, {gone, api.Store, false, api.Bus, 0}, {gone, api.Exec, true, api.Bus, 0},
		{0, api.Load, false, api.Fault, 0}, {511, api.Store, true, api.Fault, 6}, {5 * 64, api.Exec, false, api.Fault, 16},
	} {
		for i := range 8 {
			b := usual(t)
			b.fails(c.kind, c.user, at(c.page, i), c.how, c.code)
			b.knows()
		}
	}
	for _, c := range []struct {
		kind int
		user bool
		code int
	}{{api.Load, false, 9}, {api.Load, true, 13}, {api.Store, false, 11}, {api.Store, true, 15}, {api.Exec, false, 25}, {api.Exec, true, 29}} {
		for _, bad := range []word{{1, 5, of(4, all|8)}, {1, 5, of(8, all|ps)}, {4, 3, of(12, all|ps)}, {4, 3, of(7, all|1<<40)}, {7, 6, of(11, all|1<<62)}, {7, 6, of(8, all|ps)}} {
			b := usual(t)
			b.edit(bad.g, bad.i, bad.v)
			b.fails(c.kind, c.user, at(plan, 0), api.Fault, c.code)
			b.knows()
		}
	}
}

// P10.1: J2, a page that is mapped to a frame that the guest has not, be it next behind its last, of each level: Bus; the last frame that it has is done.
func TestFramesThatTheGuestHasNot(t *testing.T) {
	for _, g := range []int{24, 25, 47, 48, 63, 64, 255, 256, 1<<20 - 1} {
		for _, kind := range kinds {
			for _, user := range both {
				for _, at := range []word{{g: 1, i: 5}, {g: 4, i: 3}, {g: 7, i: 6}} {
					b := usual(t)
					b.edit(at.g, at.i, of(g, all))
					b.isBus(kind, user, plan)
				}
				b := usual(t)
				b.edit(7, 6, of(23, all))
				b.asks(kind, user, at(plan, 0), 5)
				b.knows(api.Hit{Page: plan, Frame: 23, Right: every, Dirty: kind == api.Store})
			}
		}
	}
	b := newDuo(t, lying(t, 20, word{0, 0, of(1, all)}, word{1, 0, of(16, all|ps)}), 0)
	for n := range 8 {
		if n < 4 {
			b.loads(n, 0)
		} else {
			b.isBus(api.Load, false, n)
			b.isBus(api.Store, true, n)
		}
	}
}

// isBus does an access to a page that must be Bus.
func (b *duo) isBus(kind int, user bool, page int) {
	b.t.Helper()
	b.fails(kind, user, at(page, 0), api.Bus, 0)
	b.fails(kind, user, at(page, 7), api.Bus, 0)
}

// P10.1, P1: J2, a kind that there is not: the page is forgotten, and the access is a fault at least, or what a walk is ahead of that.
func TestKindsThatAreNone(t *testing.T) {
	for _, kind := range noKinds {
		for n, user := range both {
			b := usual(t)
			b.loads(next, 112)
			b.stores(plan, 1)
			b.stores(data, 1)
			b.fails(kind, user, at(plan, 0), api.Fault, 1+4*n)
			b.fails(kind, user, at(plan, 0), api.Fault, 1+4*n)
			b.knows(api.Hit{Page: next, Frame: 12, Right: every}, api.Hit{Page: data, Frame: 10, Right: api.Right{W: true, U: true}, Dirty: true})
			b.edit(7, 7, 0)
			b.fails(kind, user, at(next, 0), api.Fault, 4*n)
			b.edit(7, 3, of(10, all|8))
			b.fails(kind, user, at(data, 0), api.Fault, 9+4*n)
			b.knows()
			b.fails(kind, user, at(gone, 0), api.Fault, 1+4*n)
			b.fails(kind, user, at(none, 0), api.Fault, 4*n)
			b.edit(4, 3, of(24, all))
			b.fails(kind, user, at(plan, 0), api.Bus, 0)
			b.root(24)
			b.fails(kind, user, at(plan, 0), api.Bus, 0)
		}
	}
}

// P10.1: J2, a Store whose target is a word of its own walk's tables: that is v behind it, whatever was marked there; the others are marked.
func TestStoreToItsOwnTables(t *testing.T) {
	for _, v := range []uint64{0, 5, of(11, all), math.MaxUint64, math.MaxUint64 &^ a, math.MaxUint64 &^ d} {
		b := usual(t)
		was := b.m.All()
		b.access(api.Store, true, at(first, 5), v, api.Out{})
		b.same(was, word{1, 5, of(4, all|a)}, word{4, 3, of(7, all|a)}, word{7, 5, v})
		b.knows(api.Hit{Page: first, Frame: 7, Right: every, Dirty: true})
		b.access(api.Load, true, at(first, 5), 0, api.Out{V: v})
		for _, own := range []word{{g: 1, i: 5}, {g: 4, i: 3}} {
			b = usual(t)
			b.edit(7, 6, of(own.g, all))
			was = b.m.All()
			b.access(api.Store, false, at(plan, own.i), v, api.Out{})
			b.same(was, word{1, 5, of(4, all|a)}, word{4, 3, of(7, all|a)}, word{7, 6, of(own.g, all|a|d)}, word{own.g, own.i, v})
			b.knows(api.Hit{Page: plan, Frame: own.g, Right: every, Dirty: true})
			b.access(api.Load, true, at(plan, own.i), 0, api.Out{V: v})
		}
	}
}

// P10.1: J2, a Load, or an Exec, of a word of its own walk's tables: what it is behind the marking.
func TestLoadOfItsOwnTables(t *testing.T) {
	for _, kind := range []int{api.Load, api.Exec} {
		for _, user := range both {
			b := usual(t)
			b.access(kind, user, at(first, 5), 0, api.Out{V: of(7, all|a)})
			b.access(api.Store, user, at(first, 4), 0, api.Out{})
			b.access(kind, user, at(first, 5), 0, api.Out{V: of(7, all|a|d)})
			for _, own := range []word{{1, 5, of(4, all|a)}, {4, 3, of(7, all|a)}} {
				b = usual(t)
				b.edit(7, 6, of(own.g, all))
				b.access(kind, user, at(plan, own.i), 0, api.Out{V: own.v})
			}
		}
	}
}

// P10.1: J2, tables that lie in one another: the root is its own table of each level, and the page's own frame, so that all entries stand in one word.
func TestTablesThatLieInOneAnother(t *testing.T) {
	for i := range 8 {
		page := i * 73
		for _, v := range []uint64{0, of(1, all), math.MaxUint64} {
			b := newDuo(t, lying(t, 3, word{2, i, of(2, all)}), 2)
			b.access(api.Load, true, at(page, i), 0, api.Out{V: of(2, all|a)})
			b.access(api.Store, true, at(page, (i+1)%8), 6, api.Out{})
			b.access(api.Load, true, at(page, i), 0, api.Out{V: of(2, all|a|d)})
			b.forget(page, true)
			b.access(api.Store, true, at(page, i), v, api.Out{})
			b.is(2, i, v)
			b.access(api.Load, true, at(page, i), 0, api.Out{V: v})
			b.knows(api.Hit{Page: page, Frame: 2, Right: every, Dirty: true})
			b.forget(page, true)
			b.asks(api.Load, true, at(page, i), 0)
		}
	}
	b := newDuo(t, lying(t, 9, word{0, 1, of(0, all)}, word{0, 2, of(0, all|ps)}, word{0, 3, of(1, all)}, word{1, 3, of(0, all)}), 0)
	b.access(api.Store, true, at(64+16, 2), 0, api.Out{})
	b.is(0, 2, 0)
	b.is(0, 1, of(0, all|a))
	b.access(api.Load, true, at(3*73, 3), 0, api.Out{V: of(0, all|a)})
	b.is(0, 3, of(1, all|a))
	b.access(api.Store, true, at(3*73, 3), 9, api.Out{})
	b.is(0, 3, of(1, all|a|d))
	b.is(1, 3, 9)
}

// P10.1: J3, Edit: the word is v, and it alone; nothing is told or forgotten for it, and it comes out with nothing else.
func TestEdit(t *testing.T) {
	b := usual(t)
	b.stores(plan, 1)
	for g := range 24 {
		for i := range 8 {
			was := b.m.All()
			b.edit(g, i, uint64(1000*g+i))
			b.same(was, word{g, i, uint64(1000*g + i)})
			b.knows(api.Hit{Page: plan, Frame: 11, Right: every, Dirty: true})
		}
	}
	b.access(api.Load, true, at(plan, 7), 0, api.Out{V: 11007})
	b.edit(11, 7, math.MaxUint64)
	b.access(api.Load, true, at(plan, 7), 0, api.Out{V: math.MaxUint64})
}

// P10.1, P2: J3, Edit of a word that there is not: Bus, and nothing else; nothing has changed.
func TestEditOfNoWord(t *testing.T) {
	b := usual(t)
	b.stores(plan, 1)
	was := b.m.All()
	for _, g := range append([]int{23, 24, 25, 47, 48, -24}, odd...) {
		for _, i := range append([]int{5, 6, 8 * 24}, odd...) {
			if g >= 0 && g < 24 && i >= 0 && i < 8 {
				continue
			}
			if o := b.asksEdit(g, i, 0xbad); o != (api.Out{How: api.Bus}) {
				t.Fatalf("Edit(%d, %d) is %+v", g, i, o)
			}
		}
	}
	b.same(was)
	b.knows(api.Hit{Page: plan, Frame: 11, Right: every, Dirty: true})
}

// used is the model of usual, whose entries have A, all of them.
func used(t *testing.T) *duo {
	t.Helper()
	m := usual(t).m
	for _, at := range []api.At{{G: 1, I: 5}, {G: 2, I: 5}, {G: 4, I: 2}, {G: 4, I: 3}, {G: 7, I: 1}, {G: 7, I: 2}, {G: 7, I: 3}, {G: 7, I: 4}, {G: 7, I: 5}, {G: 7, I: 6}, {G: 7, I: 7}} {
		v, _ := m.Get(at.G, at.I)
		set(t, m, word{at.G, at.I, v | a})
	}
	return newDuo(t, m, 1)
}

// P10.1: J3, Find of a page whose path is told as used, in each of its entries: true, and a hit is known, of the path's frame and rights, whatever these permit.
func TestFind(t *testing.T) {
	for _, want := range []api.Hit{
		{Page: still, Frame: 8, Right: api.Right{U: true, X: true}}, {Page: ours, Frame: 9, Right: api.Right{W: true, X: true}}, {Page: data, Frame: 10, Right: api.Right{W: true, U: true}},
		{Page: first, Frame: 7, Right: every}, {Page: plan, Frame: 11, Right: every}, {Page: large, Frame: 16, Right: every}, {Page: large + 7, Frame: 23, Right: every},
	} {
		b := used(t)
		b.find(want.Page, true)
		b.knows(want)
		b.find(want.Page, false)
		b.knows(want)
	}
	b := used(t)
	b.edit(4, 3, of(7, p|nx|a))
	b.find(plan, true)
	b.find(large+1, true)
	b.knows(api.Hit{Page: plan, Frame: 11}, api.Hit{Page: large + 1, Frame: 17, Right: every})
	b.loads(plan, 111)
	b.fails(api.Load, true, at(plan, 0), api.Fault, 5)
	b.knows(api.Hit{Page: large + 1, Frame: 17, Right: every})
}

// P10.1: J3, a Find gives Dirty, just if the last entry has D.
func TestFindGivesDirty(t *testing.T) {
	for n := range 8 {
		b := used(t)
		is := func(i int) uint64 { return uint64(n >> i & 1) }
		b.edit(1, 5, of(4, all|a|is(0)*d))
		b.edit(4, 3, of(7, all|a|is(1)*d))
		b.edit(4, 2, of(16, all|ps|a|is(2)*d))
		b.edit(7, 6, of(11, all|a|is(2)*d))
		b.find(plan, true)
		b.find(large+3, true)
		b.knows(api.Hit{Page: plan, Frame: 11, Right: every, Dirty: is(2) == 1}, api.Hit{Page: large + 3, Frame: 19, Right: every, Dirty: is(2) == 1})
		b.stores(plan, 4)
		b.is(7, 6, of(11, all|a|d))
		b.is(11, 0, 4)
	}
}

// P10.1: J3, a hit that was found serves, whatever the tables say since.
func TestFoundServes(t *testing.T) {
	b := used(t)
	b.find(plan, true)
	b.edit(1, 5, 0)
	b.access(api.Load, true, at(plan, 0), 0, api.Out{V: 111})
	b.access(api.Exec, true, at(plan, 0), 0, api.Out{V: 111})
	b.fails(api.Store, true, at(plan, 0), api.Fault, 6)
	b.knows()
}

// P10.1: J3, Find of a page of which a hit is known: false, and that is known on, whatever the tables say.
func TestFindOfWhatIsKnown(t *testing.T) {
	b := usual(t)
	b.loads(next, 112)
	b.stores(plan, 1)
	b.loads(ours, 109)
	hits := b.x.All()
	b.find(next, false)
	b.edit(7, 7, of(13, all|a|d))
	b.edit(7, 2, of(14, all|a))
	b.find(next, false)
	b.find(ours, false)
	b.knows(hits...)
	b.forget(next, true)
	b.find(next, true)
	b.knows(hits[1], hits[2], api.Hit{Page: next, Frame: 13, Right: every, Dirty: true})
}

// P10.1: J3, Find of a page whose walk is not Done: false, and nothing has changed.
func TestFindOfNoPath(t *testing.T) {
	b := used(t)
	for _, page := range []int{none, gone, 0, 511, 5 * 64, 6 * 64} {
		b.find(page, false)
	}
	for _, bad := range []word{{1, 5, of(4, a)}, {4, 3, of(7, all|a|8)}, {4, 3, of(7, all|a|ps)}, {7, 6, of(11, all|a|ps)}, {7, 6, of(24, all|a)}, {4, 3, of(900, all|a)}, {7, 6, a | d}, {1, 5, of(4, all|a|ps)}} {
		b = used(t)
		b.loads(next, 112)
		b.edit(bad.g, bad.i, bad.v)
		b.find(plan, false)
		b.knows(api.Hit{Page: next, Frame: 12, Right: every})
	}
}

// P10.1: J3, Find of a page whose path is not told as used in one of its entries, or in more: false, and nothing has changed; nothing is told for it.
func TestFindOfWhatIsNotMarked(t *testing.T) {
	for n := range 8 {
		b := usual(t)
		is := func(i int) uint64 { return uint64(n >> i & 1) }
		b.edit(1, 5, of(4, all|d|is(0)*a))
		b.edit(4, 3, of(7, all|d|is(1)*a))
		b.edit(7, 6, of(11, all|d|is(2)*a))
		b.edit(4, 2, of(16, all|ps|is(1)*a))
		b.find(plan, n == 7)
		b.find(large+4, n&3 == 3)
		b.asks(api.Load, true, at(plan, 0), 0)
		b.forget(plan, true)
		b.find(plan, true)
	}
}

// P10.1: J1, Forget: was a hit known of the page? It is known no more, and the next access walks the tables anew; no word has changed.
func TestForget(t *testing.T) {
	b := usual(t)
	b.loads(next, 112)
	b.stores(plan, 1)
	b.loads(ours, 109)
	was := b.m.All()
	b.forget(data, false)
	b.forget(plan, true)
	b.knows(api.Hit{Page: next, Frame: 12, Right: every}, api.Hit{Page: ours, Frame: 9, Right: api.Right{W: true, X: true}})
	b.forget(plan, false)
	b.same(was)
	b.edit(7, 6, of(13, p|a))
	b.fails(api.Store, false, at(plan, 0), api.Fault, 3)
	b.loads(plan, 113)
	b.knows(api.Hit{Page: next, Frame: 12, Right: every}, api.Hit{Page: ours, Frame: 9, Right: api.Right{W: true, X: true}}, api.Hit{Page: plan, Frame: 13, Right: api.Right{X: true}})
}

// P10.1: J1, Root: nothing is known, no word has changed, and walks go from there; the same root again forgets everything, too.
func TestRoot(t *testing.T) {
	b := usual(t)
	b.stores(plan, 1)
	b.loads(next, 112)
	b.edit(7, 6, of(13, all))
	b.root(2)
	b.forget(plan, false)
	was := b.m.All()
	b.loads(plan, 113)
	b.same(was, word{2, 5, of(4, all|a)}, word{7, 6, of(13, all|a)})
	b.knows(api.Hit{Page: plan, Frame: 13, Right: every})
	b.root(2)
	b.find(next, true)
	b.root(1)
	b.loads(plan, 113)
	b.root(3)
	b.fails(api.Load, false, at(plan, 0), api.Fault, 0)
	b.find(plan, false)
	b.root(4)
	b.fails(api.Load, false, at(plan, 0), api.Fault, 0)
	b.fails(api.Store, true, at(2*64, 0), api.Fault, 15)
	b.root(1)
	b.root(1)
	b.loads(plan, 113)
	b.knows(api.Hit{Page: plan, Frame: 13, Right: every})
}

// P10.1: J1, a root that the guest has not, of New or of Root: Bus, whatever is asked for; nothing is found.
func TestRootThatTheGuestHasNot(t *testing.T) {
	for _, root := range append([]int{-24, -23, 24, 25, 47, 48}, odd...) {
		if root >= 0 && root < 24 {
			continue
		}
		b := newDuo(t, usual(t).m, root)
		for range 2 {
			for _, kind := range append([]int{-1, 3}, kinds...) {
				for _, user := range both {
					b.isBus(kind, user, plan)
					b.isBus(kind, user, 0)
				}
			}
			b.find(plan, false)
			b.find(0, false)
			b.fails(api.Load, true, 1<<14, api.General, 0)
			b.fails(api.Load, true, 1<<14+1, api.Align, 0)
			b.root(1)
			b.stores(plan, 3)
			b.root(root)
		}
	}
}

// P10.1, P1: Find, Known and Forget of pages below 0 and beyond the last: the walk is that of the page modulo 512, what is known is of the very number.
func TestPagesBeyond(t *testing.T) {
	for _, n := range []int{-1024, -512, 512, 1024, 1 << 32, -1 << 32, 1 << 62, math.MinInt} {
		b := used(t)
		b.find(plan+n, true)
		b.knows(api.Hit{Page: plan + n, Frame: 11, Right: every})
		b.knowns([]int{plan, plan + n, plan - n})
		b.find(plan+n, false)
		b.forget(plan, false)
		b.find(plan, true)
		b.edit(7, 6, of(13, all))
		b.loads(plan, 111)
		b.knows(api.Hit{Page: plan + n, Frame: 11, Right: every}, api.Hit{Page: plan, Frame: 11, Right: every})
		b.forget(plan, true)
		b.loads(plan, 113)
		b.knows(api.Hit{Page: plan + n, Frame: 11, Right: every}, api.Hit{Page: plan, Frame: 13, Right: every})
		b.find(none+n, false)
		b.find(next+n, true)
		b.forget(plan+n, true)
		b.forget(plan+n, false)
		b.knows(api.Hit{Page: plan, Frame: 13, Right: every}, api.Hit{Page: next + n, Frame: 12, Right: every})
		b.root(2)
	}
}

// P10.1: Find of the pages next to the first and to the last one.
func TestPagesNextToTheFirstAndTheLast(t *testing.T) {
	b := each(t, all|a)
	b.find(-1, true)
	b.find(512, true)
	b.knows(api.Hit{Page: -1, Frame: 24, Right: every}, api.Hit{Page: 512, Frame: 17, Right: every})
	b.knowns([]int{0, 511, -512, 1023})
	b.find(511, true)
	b.find(0, true)
	b.forget(-1, true)
	b.forget(512, true)
	b.knows(api.Hit{Page: 511, Frame: 24, Right: every}, api.Hit{Page: 0, Frame: 17, Right: every})
	for _, page := range odd {
		b.asksFind(page)
	}
	b.knowns(odd)
	for _, page := range odd {
		b.forget(page, true)
	}
	b.knows()
}

// P10.1: there are never more than 512 hits, of pages of any number: the one that was found first goes for the one that is found then, and no other.
func TestNoMoreThanThereMayBe(t *testing.T) {
	b := each(t, all|a)
	for n := range 512 {
		if !b.x.Find(n-256) || !b.p.find(n-256) {
			t.Fatalf("Find(%d) is false", n-256)
		}
	}
	b.holds()
	if l := b.x.All(); len(l) != 512 || l[0].Page != -256 || l[511].Page != 255 {
		t.Fatalf("of 512, there are %d", len(l))
	}
	b.asks(api.Load, true, at(256, 0), 0)
	b.find(700, true)
	b.asks(api.Store, true, at(3, 0), 5)
	b.find(-255, true)
	if l := b.x.All(); len(l) != 512 || l[0].Page != -253 || l[511].Page != -255 || l[510].Page != 3 || l[508].Page != 256 {
		t.Fatalf("of more than 512, there are %d: %+v", len(l), l)
	}
}

// spoil changes all of a list, and its spare room.
func spoil(l []api.Hit) {
	l = l[:cap(l)]
	for i := range l {
		l[i] = api.Hit{Asid: 3, Page: plan, Frame: 9, Right: every, Dirty: true}
	}
}

// P3: All is new memory: who changes it, or its spare room, changes nothing that is known, and no other list.
func TestAllIsNewMemory(t *testing.T) {
	b := usual(t)
	spoil(b.x.All())
	for n, page := range []int{next, plan, ours, still, large, large + 1, large + 2} {
		b.asks(api.Load, false, at(page, 0), 0)
		one, two := b.x.All(), b.x.All()
		want := slices.Clone(two)
		spoil(one)
		_ = append(one, api.Hit{Page: n})
		if !slices.Equal(two, want) {
			t.Fatalf("the other list is %+v, not %+v", two, want)
		}
		b.holds()
		spoil(two)
		if n%2 == 1 {
			b.forget(page, true)
			spoil(one)
		}
		b.holds()
	}
}

// P3: no later call changes a list that came out, nor its spare room.
func TestNoLaterCallChangesAList(t *testing.T) {
	calls := []func(b *duo){
		func(b *duo) { b.asks(api.Store, false, at(next, 0), 4) },
		func(b *duo) { b.asks(api.Store, false, at(ours, 0), 4) },
		func(b *duo) { b.asks(api.Exec, false, at(data, 0), 4) },
		func(b *duo) { b.asks(api.Load, true, at(ours, 0), 4) },
		func(b *duo) { b.asksFind(large) },
		func(b *duo) { b.asksForget(next) },
		func(b *duo) { b.asksForget(plan) },
		func(b *duo) { b.root(2) },
	}
	for _, one := range calls {
		for _, then := range calls {
			b := used(t)
			for _, page := range []int{next, plan, ours, data} {
				b.asks(api.Load, false, at(page, 0), 0)
			}
			one(b)
			l := b.x.All()
			l = l[:cap(l)]
			want := slices.Clone(l)
			then(b)
			b.asksFind(still)
			b.asksFind(large + 3)
			if !slices.Equal(l, want) {
				t.Fatalf("a list became %+v, from %+v", l, want)
			}
		}
	}
}

// P3: two models of two memories do not touch one another.
func TestModelsOfTwoMemories(t *testing.T) {
	b, c := usual(t), usual(t)
	hits, was := c.x.All(), c.m.All()
	b.stores(plan, 1)
	b.loads(next, 112)
	b.edit(7, 6, 0)
	c.holds()
	c.same(was)
	c.knows(hits...)
	c.loads(plan, 111)
	c.find(next, false)
	c.root(2)
	b.holds()
	b.loads(plan, 1)
	c.loads(plan, 111)
	c.root(3)
	b.forget(plan, true)
	b.fails(api.Load, false, at(plan, 0), api.Fault, 0)
	b.loads(large, 116)
	c.holds()
	c.knows()
}

// P3: two models of one memory know each its own, each with its own root, and have the memory alone in common.
func TestModelsOfOneMemory(t *testing.T) {
	b := usual(t)
	c := &duo{t, b.m, model.New(b.m, 2), &plain{words: b.m.All(), root: 2}}
	turn := func(x, y *duo) { y.p.words = slices.Clone(x.p.words) }
	b.stores(plan, 1)
	turn(b, c)
	c.knows()
	c.loads(plan, 1)
	c.is(2, 5, of(4, all|a))
	c.knows(api.Hit{Page: plan, Frame: 11, Right: every, Dirty: true})
	c.loads(next, 112)
	c.forget(plan, true)
	turn(c, b)
	b.holds()
	b.knows(api.Hit{Page: plan, Frame: 11, Right: every, Dirty: true})
	b.edit(7, 6, of(13, all))
	turn(b, c)
	c.loads(plan, 113)
	turn(c, b)
	b.loads(plan, 1)
	b.stores(plan, 8)
	turn(b, c)
	c.is(11, 0, 8)
	c.root(1)
	turn(c, b)
	b.loads(plan, 8)
	b.root(2)
	turn(b, c)
	b.loads(next, 112)
	c.knows()
	c.find(next, true)
	turn(c, b)
	b.forget(next, true)
	c.knows(api.Hit{Page: next, Frame: 12, Right: every})
}

// P3: a memory that is written without a model, ahead of an access, is the one that is walked, and loaded.
func TestMemoryIsKept(t *testing.T) {
	b := usual(t)
	b.loads(plan, 111)
	set(t, b.m, word{11, 0, 9}, word{7, 7, of(13, all)})
	b.p.words = b.m.All()
	b.loads(plan, 9)
	b.loads(next, 113)
	b.stores(plan, 3)
	b.is(11, 0, 3)
}

// P3: asking, and what answers false, changes nothing.
func TestAskingChangesNothing(t *testing.T) {
	b := usual(t)
	b.stores(plan, 1)
	b.loads(next, 112)
	was, hits := b.m.All(), b.x.All()
	for range 3 {
		b.knowns(odd)
		b.forget(ours, false)
		b.find(plan, false)
		b.find(ours, false)
		b.find(none, false)
		b.asksEdit(24, 0, 9)
		b.fails(api.Load, true, 4, api.Align, 0)
		b.fails(api.Load, true, 1<<14, api.General, 0)
		b.fails(api.Load, true, at(ours, 0), api.Fault, 5)
		b.same(was)
		b.knows(hits...)
	}
}

// luck tells numbers one behind the other, the same ones each time.
type luck uint64

func (l *luck) next(n int) int {
	*l = *l*6364136223846793005 + 1442695040888963407
	return int(uint64(*l) >> 33 % uint64(n))
}

// entry is a word of any kind, mostly one by which a walk goes on.
func (l *luck) entry(frames int) uint64 {
	g := l.next(frames)
	v := uint64(all)
	for _, c := range []struct {
		bit uint64
		one int
	}{{p, 30}, {w, 5}, {u, 5}, {a, 2}, {d, 3}, {nx, 6}, {1 << 9, 60}, {1 << 40, 60}} {
		if l.next(c.one) == 0 {
			v ^= c.bit
		}
	}
	if l.next(8) == 0 {
		v |= ps
		g &^= 7
	}
	if l.next(30) == 0 {
		g += l.next(2 * frames)
	}
	return of(g, v)
}

// tables is a guest of many kinds of entries.
func (l *luck) tables(t *testing.T, frames int) *guest.Mem {
	t.Helper()
	m := lying(t, frames)
	for g := range frames {
		for i := range 8 {
			set(t, m, word{g, i, l.entry(frames)})
		}
	}
	return m
}

// some is a page of a few, so that many calls are of one that is known.
func (l *luck) some() int { return []int{0, 1, 7, 9, 73, 146, 300, 301, 365, 511}[l.next(10)] }

// address is one of such a page, seldom one that may not be.
func (l *luck) address() uint64 {
	addr := at(l.some(), l.next(8))
	switch l.next(30) {
	case 0:
		addr += uint64(l.next(8))
	case 1:
		addr ^= 1 << (14 + l.next(50))
	}
	return addr
}

// call does one of both, most of them accesses; how an access comes out, or below 0 for others.
func (l *luck) call(b *duo, frames int) int {
	b.t.Helper()
	switch n := l.next(100); {
	case n < 60:
		kind := l.next(3)
		if l.next(30) == 0 {
			kind = l.next(9) - 4
		}
		return b.asks(kind, l.next(2) == 0, l.address(), l.entry(frames)).How
	case n < 74:
		g, i := l.next(frames), l.next(8)
		if l.next(20) == 0 {
			g, i = l.next(3*frames)-frames, l.next(24)-8
		}
		b.asksEdit(g, i, l.entry(frames))
	case n < 88:
		if b.asksFind(l.some() + 512*(l.next(5)/4)) {
			return -2
		}
	case n < 98:
		b.asksForget(l.some())
	default:
		b.root(l.next(frames+2) - 1)
	}
	return -1
}

// P10.1 to P10.4: long runs, of many tables, come out as the chapter tells behind each call, with the same words, and the same that is known.
func TestLongRuns(t *testing.T) {
	l := luck(10)
	hows := map[int]int{}
	for _, frames := range []int{1, 2, 3, 5, 8, 9, 16, 17, 24, 32, 64} {
		for range 6 {
			b := newDuo(t, l.tables(t, frames), l.next(frames))
			for range 300 {
				hows[l.call(b, frames)]++
			}
		}
	}
	for how, least := range map[int]int{api.Done: 3000, api.Fault: 2000, api.Bus: 300, api.Align: 100, api.General: 100, -2: 200} {
		if hows[how] < least {
			t.Errorf("the runs are not of many kinds: %v", hows)
		}
	}
}

// small is a model of a guest of five frames, and the root 0, with two pages: 0, that permits everything, and 1, by the same tables, that may not be written, and is the table 2 itself.
func small(t *testing.T) *duo {
	t.Helper()
	return newDuo(t, lying(t, 5, word{0, 0, of(1, all)}, word{1, 0, of(2, all)}, word{2, 0, of(3, all)}, word{2, 1, of(2, p|u)}), 0)
}

// P10.1 to P10.4: all short runs, of a small one, come out as the chapter tells.
func TestAllShortRuns(t *testing.T) {
	calls := []func(b *duo){
		func(b *duo) { b.asks(api.Load, true, at(0, 0), 0) },
		func(b *duo) { b.asks(api.Store, true, at(0, 0), 7) },
		func(b *duo) { b.asks(api.Exec, false, at(1, 0), 0) },
		func(b *duo) { b.asks(api.Store, false, at(1, 0), of(4, all)) },
		func(b *duo) { b.asks(3, false, at(0, 0), 0) },
		func(b *duo) { b.asksEdit(2, 0, of(4, all|a)) },
		func(b *duo) { b.asksEdit(2, 1, of(2, all|a|d)) },
		func(b *duo) { b.asksEdit(1, 0, 0) },
		func(b *duo) { b.asksFind(0) },
		func(b *duo) { b.asksFind(1) },
		func(b *duo) { b.asksForget(0) },
		func(b *duo) { b.root(0) },
	}
	many := len(calls)
	for run := range many * many * many * many {
		b := small(t)
		for n, rest := 0, run; n < 4; n, rest = n+1, rest/many {
			calls[rest%many](b)
		}
	}
}

// P10.2: an access to a page of which nothing is known comes out as a walk of the memory as it is says, behind calls of any kind.
func TestFresh(t *testing.T) {
	l := luck(20)
	done := 0
	for range 100 {
		frames := 8 + l.next(20)
		b := newDuo(t, l.tables(t, frames), l.next(frames))
		for range 60 {
			for range 3 {
				l.call(b, frames)
			}
			page, kind, user, i, v := l.next(512), l.next(4), l.next(2) == 0, l.next(8), l.entry(frames)
			b.asksForget(page)
			path, how, code := walk.Walk(b.m, b.p.root, page, kind, user)
			o := b.asks(kind, user, at(page, i), v)
			if o.How != how || o.Code != code || (o.Addr == 0) != (how == api.Done || page == 0 && i == 0) {
				t.Fatalf("an access is %+v, a walk %d, %d", o, how, code)
			}
			if how != api.Done {
				continue
			}
			done++
			want, _ := b.m.Get(path.G, i)
			if kind == api.Store && (want != v || o.V != 0) || kind != api.Store && o.V != want {
				t.Fatalf("an access is %+v, the word %x", o, want)
			}
			if h, is := b.x.Known(page); !is || h != (api.Hit{Page: page, Frame: path.G, Right: path.Right, Dirty: path.Dirty || kind == api.Store}) {
				t.Fatalf("known is %+v, of %+v", h, path)
			}
		}
	}
	if done < 1000 {
		t.Errorf("only %d accesses were done", done)
	}
}

// P10.3: an access changes nothing but A along its walk, D of the walk's last entry by a Store, and the word that is stored; nothing of the host's but the guest's frames; one that is not Done changes nothing at all.
func TestAnAccessChangesNothingElse(t *testing.T) {
	l := luck(30)
	for range 60 {
		frames := 8 + l.next(20)
		b := newDuo(t, l.tables(t, frames), l.next(frames))
		for range 60 {
			l.call(b, frames)
			page, kind, user, i, v := l.some(), l.next(4), l.next(2) == 0, l.next(8), l.entry(frames)
			path, _, _ := walk.Walk(b.m, b.p.root, page, kind, user)
			was := b.m.All()
			o := b.asks(kind, user, at(page, i), v)
			h, _ := b.x.Known(page)
			stored := -1
			if o.How == api.Done && kind == api.Store {
				stored = 8*h.Frame + i
			}
			for n, x := range b.m.All() {
				if n == stored && x == v || n != stored && x == was[n] {
					continue
				}
				place := slices.Index(path.Ats, api.At{G: n / 8, I: n % 8})
				// What stands in one word more than once may be the last entry, too.
				last := path.Ats != nil && path.Ats[len(path.Ats)-1] == api.At{G: n / 8, I: n % 8}
				more := x &^ was[n]
				if o.How != api.Done || place < 0 || was[n]&^x != 0 || more&^(a|d) != 0 || more&d != 0 && !(last && kind == api.Store) {
					t.Fatalf("an access of the kind %d, that is %+v, has changed the word %d from %x to %x", kind, o, n, was[n], x)
				}
			}
		}
	}
}

// P10.3: no frame of the host's changes but the guest's.
func TestOtherFramesOfTheHost(t *testing.T) {
	l := luck(40)
	h := frame.New(40)
	for g := range 40 {
		for i := range 8 {
			h.Set(g, i, l.entry(40))
		}
	}
	var places []int
	for g := range 20 {
		places = append(places, (g*7+3)%40)
	}
	m := guest.New(h, gmap.New(places, 40))
	was := map[int][]uint64{}
	for g := range 40 {
		was[g] = h.Frame(g)
	}
	b := newDuo(t, m, 5)
	for range 2000 {
		l.call(b, 20)
	}
	for g := range 40 {
		if !slices.Contains(places, g) && !slices.Equal(h.Frame(g), was[g]) {
			t.Fatalf("the host's frame %d has changed", g)
		}
	}
}

// P10.4: what is known of a page is used, whatever the tables say since: all words but those of its frame may be any.
func TestAsKnown(t *testing.T) {
	l := luck(50)
	many := 0
	for range 400 {
		b := newDuo(t, l.tables(t, 20), l.next(20))
		page, kind := l.next(512), l.next(3)
		if o := b.asks(kind, true, at(page, 2), l.entry(20)); o.How != api.Done {
			continue
		}
		many++
		hit, _ := b.x.Known(page)
		for g := range 20 {
			for i := range 8 {
				if g != hit.Frame {
					set(t, b.m, word{g, i, l.entry(30)})
				}
			}
		}
		was := b.m.All()
		b.p.words = slices.Clone(was)
		for i := range 8 {
			b.access(api.Load, true, at(page, i), 0, api.Out{V: was[8*hit.Frame+i]})
			b.same(was)
			if hit.Right.X {
				b.access(api.Exec, true, at(page, i), 0, api.Out{V: was[8*hit.Frame+i]})
			}
			if hit.Right.W && hit.Dirty {
				b.access(api.Store, true, at(page, i), uint64(i), api.Out{})
				was[8*hit.Frame+i] = uint64(i)
			}
			b.same(was)
			b.find(page, false)
			b.knows(hit)
		}
	}
	if many < 50 {
		t.Errorf("only %d accesses were done", many)
	}
}

// P3: where the guest's frames lie tells nothing: two of the same words, in two hosts, come out alike.
func TestWhereFramesLieTellsNothing(t *testing.T) {
	l := luck(60)
	m := l.tables(t, 16)
	var places []int
	for g := range 16 {
		places = append(places, (g*5+2)%16)
	}
	o := guest.New(frame.New(16), gmap.New(places, 16))
	if !o.Load(m.All()) {
		t.Fatal("Load is false")
	}
	x, y := newDuo(t, m, 3), newDuo(t, o, 3)
	one, two := luck(61), luck(61)
	for range 2000 {
		if one.call(x, 16) != two.call(y, 16) || !slices.Equal(m.All(), o.All()) || !slices.Equal(x.x.All(), y.x.All()) {
			t.Fatal("two models of the same words come out apart")
		}
	}
}

// P10.1, P1: tables in frames that the host has not are none: Bus; an Edit there, too; no call panics, whatever frames there are.
func TestFramesThatTheHostHasNot(t *testing.T) {
	m := guest.New(frame.New(4), gmap.New([]int{0, 1, 2, 3, 4, 200}, 256))
	set(t, m, word{0, 0, of(1, all|a)}, word{1, 0, of(2, all|a)}, word{2, 0, of(3, all|a)}, word{2, 1, of(4, all|a)}, word{0, 1, of(4, all|a)}, word{1, 1, of(5, all|a)})
	x := model.New(m, 0)
	was := m.All()
	for _, page := range []int{64, 8} {
		if o := x.Access(api.Store, true, at(page, 0), 5); o != (api.Out{How: api.Bus, Addr: at(page, 0)}) || x.Find(page) {
			t.Errorf("of the page %d: %+v", page, o)
		}
	}
	if o := x.Edit(4, 0, 5); o != (api.Out{How: api.Bus}) || !slices.Equal(m.All(), was) {
		t.Errorf("an Edit is %+v", o)
	}
	x.Find(1)
	x.Access(api.Load, true, at(1, 0), 5)
	x.Access(api.Store, true, at(1, 0), 5)
	x.Root(4)
	if o := x.Access(api.Load, true, 0, 5); o != (api.Out{How: api.Bus}) {
		t.Errorf("of a root that the host has not: %+v", o)
	}
}

// P1: every call ends and none panics, at all arguments, whatever is known.
func TestNothingPanics(t *testing.T) {
	l := luck(70)
	for _, frames := range []int{1, 20} {
		b := newDuo(t, l.tables(t, frames), 0)
		for _, one := range odd {
			for _, two := range odd {
				b.asks(one, two%2 == 0, uint64(two), uint64(one))
				b.asks(two&3, one%2 == 0, uint64(one)&^7, uint64(two))
				b.asksEdit(one, two, l.entry(frames))
				b.asksFind(one)
				b.asksFind(two)
				if one%3 == 0 {
					b.asksForget(two)
				}
			}
			b.knowns(odd)
			b.root(one)
			b.asks(api.Load, false, 0, 0)
			b.root(0)
		}
	}
}
