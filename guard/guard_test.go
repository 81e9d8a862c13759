package guard_test

import (
	"math"
	"slices"
	"testing"

	"silhouette/api"
	"silhouette/frame"
	"silhouette/gmap"
	"silhouette/guard"
	"silhouette/guest"
	"silhouette/store"
	"silhouette/tlb"
)

// odd are numbers about every edge.
var odd = []int{math.MinInt, math.MinInt + 1, math.MinInt32, -1 << 32, -257, -64, -9, -8, -7, -3, -2, -1, 0, 1, 2, 3, 4, 5, 7, 8, 9, 15, 16, 17, 39, 40, 41, 63, 64, 255, 256, 257, 512, 1<<20 - 1, 1 << 20, math.MaxInt32, 1 << 32, 1<<32 + 1, 1<<32 + 3, 1 << 62, math.MaxInt - 1, math.MaxInt}

// rights are all that there are.
var rights = []api.Right{{}, {W: true}, {U: true}, {W: true, U: true}, {X: true}, {W: true, X: true}, {U: true, X: true}, {W: true, U: true, X: true}}

// every is the right to all, and read the same without W.
var (
	every = api.Right{W: true, U: true, X: true}
	read  = api.Right{U: true, X: true}
)

// Bits of entries, as the document tells them.
const (
	p  = 1
	w  = 2
	u  = 4
	a  = 32
	d  = 64
	ps = 128
	nx = 1 << 63
)

// all are the bits of an entry that permits all, and was used and written to.
const all = p | w | u | a | d

// of is a word of the frame f, that has those bits.
func of(f int, bits uint64) uint64 { return uint64(f)<<12 | bits }

// key is one of a table, and large one of a large page that was written to.
func key(g, level int) api.Key { return api.Key{G: g, Level: level} }

func large(g int) api.Key { return api.Key{G: g, Level: 1, Role: 2} }

// plainPage is a shadow page as the chapters tell it; of holds the host's frame that each slot's word is of.
type plainPage struct {
	frame int
	key   api.Key
	slots [8]api.Slot
	of    [8]int
}

// plain is a guard, its store, its TLB and its host's words, as the chapters tell them; hosts are the guest's frames.
type plain struct {
	words [][8]uint64
	hosts []int
	pages []*plainPage
	free  []int // the one that is taken next is the last one
	most  int
	hits  []api.Hit
	loose []int
}

func (x *plain) page(f int) *plainPage {
	for _, y := range x.pages {
		if y.frame == f {
			return y
		}
	}
	return nil
}

func (x *plain) find(k api.Key) *plainPage {
	for _, y := range x.pages {
		if y.key == k {
			return y
		}
	}
	return nil
}

// tables are the pages of a table.
func (x *plain) tables(g int) []*plainPage {
	var l []*plainPage
	for _, y := range x.pages {
		if y.key.Role == 0 && y.key.G == g {
			l = append(l, y)
		}
	}
	return l
}

func (x *plain) isLoose(g int) bool { return slices.Index(x.loose, g) >= 0 }

func (x *plain) host(g int) int {
	if g >= 0 && g < len(x.hosts) {
		return x.hosts[g]
	}
	return 0
}

// sMake, sDrop, sChild, sLeaf and sClear are the store's own calls.
func (x *plain) sMake(k api.Key) (int, bool) {
	right := k.Role == 0 && k.Level >= 1 && k.Level <= 3 || k.Level == 1 && (k.Role == 1 || k.Role == 2)
	if !right || x.find(k) != nil || len(x.free) == 0 {
		return 0, false
	}
	f := x.free[len(x.free)-1]
	x.free = x.free[:len(x.free)-1]
	x.pages = append(x.pages, &plainPage{frame: f, key: k})
	return f, true
}

func (x *plain) sDrop(f int) bool {
	if x.page(f) == nil {
		return false
	}
	var rest []*plainPage
	for _, y := range x.pages {
		if y.frame == f {
			continue
		}
		for i, z := range y.slots {
			if z.Kind == api.Child && z.To == f {
				y.slots[i] = api.Slot{}
			}
		}
		rest = append(rest, y)
	}
	x.pages, x.words[f], x.free = rest, [8]uint64{}, append(x.free, f)
	return true
}

func (x *plain) sChild(f, i, c int, r api.Right) bool {
	y, z := x.page(f), x.page(c)
	if y == nil || z == nil || i < 0 || i > 7 || z.key.Level+1 != y.key.Level {
		return false
	}
	y.slots[i], y.of[i] = api.Slot{Kind: api.Child, To: c, Right: r}, c
	return true
}

func (x *plain) sLeaf(f, i, g, h int, r api.Right) bool {
	y := x.page(f)
	if y == nil || i < 0 || i > 7 || y.key.Level != 1 || h < 0 || h >= len(x.words) {
		return false
	}
	y.slots[i], y.of[i] = api.Slot{Kind: api.Leaf, To: g, Right: r}, h
	return true
}

func (x *plain) sClear(f, i int) bool {
	y := x.page(f)
	if y == nil || i < 0 || i > 7 || y.slots[i].Kind == api.Empty {
		return false
	}
	y.slots[i] = api.Slot{}
	return true
}

func (x *plain) put(h api.Hit) {
	x.hits = slices.DeleteFunc(x.hits, func(y api.Hit) bool { return y.Asid == h.Asid && y.Page == h.Page })
	x.hits = append(x.hits, h)
	if len(x.hits) > x.most {
		x.hits = x.hits[1:]
	}
}

// forbid has each leaf of a frame that may be written be one that may not.
func (x *plain) forbid(g int) {
	for _, y := range x.pages {
		for i, z := range y.slots {
			if z.Kind == api.Leaf && z.To == g && z.Right.W {
				y.slots[i].Right.W, y.of[i] = false, x.host(g)
				x.hits = nil
			}
		}
	}
}

// agreed: does a leaf agree with an entry's word?
func agreed(z api.Slot, v uint64) bool {
	for _, bit := range []uint64{p, a} {
		if v&bit == 0 {
			return false
		}
	}
	// Beside the frame, all that may be one are P, W, U, A, D and NX.
	if v&^(0xfffff000|p|w|u|a|d|nx) != 0 {
		return false
	}
	if int(v&0xfffff000>>12) != z.To || (v&u != 0) != z.Right.U || (v>>63 == 0) != z.Right.X {
		return false
	}
	return !z.Right.W || v&(w|d) == w|d
}

func (x *plain) look(g int) bool {
	if !x.isLoose(g) {
		return false
	}
	x.tighten(g)
	x.forbid(g)
	for _, y := range x.tables(g) {
		for i, z := range y.slots {
			v := uint64(0)
			if g >= 0 && g < len(x.hosts) {
				v = x.words[x.hosts[g]][i]
			}
			if z.Kind == api.Leaf && !agreed(z, v) {
				y.slots[i] = api.Slot{}
			}
		}
	}
	x.hits = nil
	return true
}

func (x *plain) tighten(g int) {
	var rest []int
	for _, f := range x.loose {
		if f != g {
			rest = append(rest, f)
		}
	}
	x.loose = rest
}

func (x *plain) make(k api.Key) (int, bool) {
	if y := x.find(k); y != nil {
		return y.frame, true
	}
	if k.Role == 0 {
		x.look(k.G)
	}
	f, is := x.sMake(k)
	if is && k.Role == 0 {
		x.forbid(k.G)
	}
	return f, is
}

func (x *plain) drop(f int) bool {
	y := x.page(f)
	if y == nil {
		return false
	}
	if y.key.Role == 0 {
		x.tighten(y.key.G)
	}
	x.hits = nil
	return x.sDrop(f)
}

// parents are the pages of all slots that tell one, as often as they do.
func (x *plain) parents(f int) []*plainPage {
	var l []*plainPage
	for _, y := range x.pages {
		for _, z := range y.slots {
			if z.Kind == api.Child && z.To == f {
				l = append(l, y)
			}
		}
	}
	return l
}

func (x *plain) loosen(g int) bool {
	l := x.tables(g)
	if x.isLoose(g) || len(l) != 1 || l[0].key.Level != 1 {
		return false
	}
	up := x.parents(l[0].frame)
	if len(up) != 1 || len(x.parents(up[0].frame)) != 1 {
		return false
	}
	x.loose = append(x.loose, g)
	return true
}

// next is the page that a slot is a Child to; nil: it is none.
func (x *plain) next(y *plainPage, i int) *plainPage {
	if y == nil || y.slots[i].Kind != api.Child {
		return nil
	}
	return x.page(y.slots[i].To)
}

// reach goes each page's way from the root, and tells those that pass the slot.
func (x *plain) reach(root, f, i int) []int {
	var l []int
	for n := range 512 {
		y := x.find(key(root, 3))
		for _, at := range []int{n / 64, n / 8 % 8, n % 8} {
			if y != nil && y.frame == f && at == i {
				l = append(l, n)
			}
			y = x.next(y, at)
		}
	}
	return l
}

// wordOf is the word of a slot, by the bits that the chapters tell.
func wordOf(z api.Slot, f int) uint64 {
	if z.Kind == api.Empty {
		return 0
	}
	v := of(f, p)
	if z.Right.W {
		v |= w
	}
	if z.Right.U {
		v |= u
	}
	if !z.Right.X {
		v |= nx
	}
	return v
}

// both are a guard with all that it is of, and a plain one.
type both struct {
	t *testing.T
	h *frame.Mem
	m *guest.Mem
	s *store.Store
	k *tlb.Tlb
	d *guard.Guard
	x *plain
}

// The host has frames from 0 on, shadow pages those from first on, and the guest many of those from image on, in another order.
const (
	hostMany  = 48
	first     = 4
	image     = 24
	guestMany = 16
)

// list tells the guest's frames.
func list() []int {
	var l []int
	for g := range guestMany {
		l = append(l, image+(g*5+3)%guestMany)
	}
	return l
}

// made are both, with so many frames for shadow pages, in a memory of which no word outside the guest's is 0.
func made(t *testing.T, pool int) both {
	t.Helper()
	b := both{t: t, h: frame.New(hostMany), k: tlb.New(8), x: &plain{hosts: list(), most: 8}}
	for f := range hostMany {
		b.x.words = append(b.x.words, [8]uint64{})
		for i := range 8 {
			if f < image || f >= image+guestMany {
				b.x.words[f][i] = uint64(f)<<40 | uint64(i)<<32 | 0xdead0001
			}
		}
		b.h.Fill(f, b.x.words[f][:])
	}
	for f := first + pool - 1; f >= first; f-- {
		b.x.free = append(b.x.free, f)
	}
	m := gmap.New(list(), hostMany)
	b.m, b.s = guest.New(b.h, m), store.New(b.h, first, pool)
	b.d = guard.New(b.m, m, b.s, b.k)
	b.same()
	return b
}

// same tells where anything is not as it is to be.
func (b both) same() {
	b.t.Helper()
	b.pagesAre()
	b.wordsAre()
	if l := b.k.List(); !slices.Equal(l, b.x.hits) {
		b.t.Fatalf("known is %v, not %v", l, b.x.hits)
	}
	if l := b.d.List(); !slices.Equal(l, b.x.loose) {
		b.t.Fatalf("List is %v, not %v", l, b.x.loose)
	}
	for g := -2; g < guestMany+3; g++ {
		b.tells(g)
	}
	for _, y := range b.x.pages {
		b.tells(y.key.G)
	}
}

// tells tells where a frame is told to be loose, or protected, and is not to be, or the other way.
func (b both) tells(g int) {
	b.t.Helper()
	want := b.x.isLoose(g)
	if is := b.d.Loose(g); is != want {
		b.t.Fatalf("Loose(%d) is %t", g, is)
	}
	if is := b.d.Protected(g); is != (len(b.x.tables(g)) > 0 && !want) {
		b.t.Fatalf("Protected(%d) is %t", g, is)
	}
}

// pagesAre tells where the store has others than the plain one's pages, or slots.
func (b both) pagesAre() {
	b.t.Helper()
	var want []int
	for _, y := range b.x.pages {
		want = append(want, y.frame)
		if k, _ := b.s.Key(y.frame); k != y.key {
			b.t.Fatalf("the page %d is of %v, not %v", y.frame, k, y.key)
		}
		for i, z := range y.slots {
			if got, _ := b.s.Slot(y.frame, i); got != z {
				b.t.Fatalf("the slot %d, %d is %v, not %v", y.frame, i, got, z)
			}
		}
	}
	if l := b.s.All(); !slices.Equal(l, want) {
		b.t.Fatalf("the pages are %v, not %v", l, want)
	}
	if b.s.Left() != len(b.x.free) {
		b.t.Fatalf("%d frames are left, not %d", b.s.Left(), len(b.x.free))
	}
}

// wordsAre tells where a word of the host's is not what it is to be.
func (b both) wordsAre() {
	b.t.Helper()
	for f, want := range b.x.words {
		if y := b.x.page(f); y != nil {
			for i, z := range y.slots {
				want[i] = wordOf(z, y.of[i])
			}
		}
		if [8]uint64(b.h.Frame(f)) != want {
			b.t.Fatalf("the frame %d is %x, not %x", f, b.h.Frame(f), want)
		}
	}
}

// set has a word of the guest's be another one.
func (b both) set(g, i int, v uint64) {
	b.t.Helper()
	if !b.m.Set(g, i, v) {
		b.t.Fatalf("there is no word %d, %d", g, i)
	}
	b.x.words[b.x.hosts[g]][i] = v
}

// put has some pages be known.
func (b both) put() {
	for _, h := range []api.Hit{{Page: 1, Frame: 24}, {Asid: 1, Page: 1, Right: every}, {Asid: 7, Page: 511, Dirty: true}} {
		b.k.Put(h)
		b.x.put(h)
	}
}

// page, child, leaf, clear and gone are done by somebody else, in the store itself.
func (b both) page(k api.Key) int {
	b.t.Helper()
	f, is := b.s.Make(k)
	if want, wantIs := b.x.sMake(k); f != want || is != wantIs {
		b.t.Fatalf("the store's Make of %v is %d, %t", k, f, is)
	}
	return f
}

func (b both) child(f, i, c int, r api.Right) bool {
	b.t.Helper()
	is := b.s.Child(f, i, c, r)
	if is != b.x.sChild(f, i, c, r) {
		b.t.Fatalf("the store's Child(%d, %d, %d) is %t", f, i, c, is)
	}
	return is
}

func (b both) leaf(f, i, g, h int, r api.Right) bool {
	b.t.Helper()
	is := b.s.Leaf(f, i, g, h, r)
	if is != b.x.sLeaf(f, i, g, h, r) {
		b.t.Fatalf("the store's Leaf(%d, %d, %d, %d) is %t", f, i, g, h, is)
	}
	return is
}

func (b both) clear(f, i int) {
	b.s.Clear(f, i)
	b.x.sClear(f, i)
}

func (b both) gone(f int) {
	b.t.Helper()
	if b.s.Drop(f) != b.x.sDrop(f) {
		b.t.Fatalf("the store's Drop(%d) is not as it is to be", f)
	}
}

// tell has a slot of a page be a leaf to a guest's frame, of the host's that it is.
func (b both) tell(f, i, g int, r api.Right) {
	b.t.Helper()
	if !b.leaf(f, i, g, b.x.host(g), r) {
		b.t.Fatalf("there is no slot %d, %d for a leaf", f, i)
	}
}

// link has a slot of a page tell another one.
func (b both) link(f, i, c int) {
	b.t.Helper()
	if !b.child(f, i, c, every) {
		b.t.Fatalf("the slot %d, %d tells no %d", f, i, c)
	}
}

// make, drop, zap, word, loosen, look, each and reach are the guard's calls, that are to be as the plain one's, and to leave the same.
func (b both) make(k api.Key) (int, bool) {
	b.t.Helper()
	f, is := b.d.Make(k)
	if want, wantIs := b.x.make(k); f != want || is != wantIs {
		b.t.Fatalf("Make of %v is %d, %t, not %d, %t", k, f, is, want, wantIs)
	}
	b.same()
	return f, is
}

func (b both) drop(f int) bool {
	b.t.Helper()
	is := b.d.Drop(f)
	if is != b.x.drop(f) {
		b.t.Fatalf("Drop(%d) is %t", f, is)
	}
	b.same()
	return is
}

func (b both) zap(f, i int) bool {
	b.t.Helper()
	is, want := b.d.Zap(f, i), b.x.sClear(f, i)
	if want {
		b.x.hits = nil
	}
	if is != want {
		b.t.Fatalf("Zap(%d, %d) is %t", f, i, is)
	}
	b.same()
	return is
}

func (b both) word(g, i int) {
	b.t.Helper()
	b.d.Word(g, i)
	for _, y := range b.x.tables(g) {
		if b.x.sClear(y.frame, i) {
			b.x.hits = nil
		}
	}
	b.same()
}

func (b both) loosen(g int) bool {
	b.t.Helper()
	is := b.d.Loosen(g)
	if is != b.x.loosen(g) {
		b.t.Fatalf("Loosen(%d) is %t", g, is)
	}
	b.same()
	return is
}

func (b both) look(g int) bool {
	b.t.Helper()
	is := b.d.Look(g)
	if is != b.x.look(g) {
		b.t.Fatalf("Look(%d) is %t", g, is)
	}
	b.same()
	return is
}

func (b both) each() {
	b.t.Helper()
	b.d.All()
	for _, g := range slices.Clone(b.x.loose) {
		b.x.look(g)
	}
	b.same()
}

func (b both) reach(root, f, i int) []int {
	b.t.Helper()
	l := b.d.Reach(root, f, i)
	if want := b.x.reach(root, f, i); !slices.Equal(l, want) {
		b.t.Fatalf("Reach(%d, %d, %d) is %v, not %v", root, f, i, l, want)
	}
	b.same()
	return l
}

// so tells, if it is not.
func so(t *testing.T, is bool, what string) {
	t.Helper()
	if !is {
		t.Fatal(what)
	}
}

// is tells where a slot is another one.
func (b both) is(f, i int, want api.Slot) {
	b.t.Helper()
	if got, _ := b.s.Slot(f, i); got != want {
		b.t.Fatalf("the slot %d, %d is %v, not %v", f, i, got, want)
	}
}

// empties tells where a slot tells anything.
func (b both) empties(f, i int) {
	b.t.Helper()
	b.is(f, i, api.Slot{})
}

// forgets tells if anything is still known behind what is done, and keeps if anything is not.
func (b both) forgets(do func()) {
	b.t.Helper()
	b.put()
	do()
	so(b.t, b.k.Many() == 0 && len(b.k.List()) == 0, "the TLB still knows something")
}

func (b both) keeps(do func()) {
	b.t.Helper()
	b.put()
	was := b.k.List()
	do()
	so(b.t, len(was) >= 3 && slices.Equal(b.k.List(), was), "the TLB knows other hits")
}

// tree are both, with twelve frames for shadow pages, four of them made: of the root 1 (4), the table 2 (5), the table 3 (6), that each is told by a slot of the one above, and of a large page 8 (7), that is told by none.
func tree(t *testing.T) both {
	t.Helper()
	b := made(t, 12)
	for n, k := range []api.Key{key(1, 3), key(2, 2), key(3, 1), large(8)} {
		f, is := b.make(k)
		so(t, is && f == top+n, "there is no such page")
	}
	b.link(top, 0, mid)
	b.link(mid, 2, low)
	return b
}

// The tree's pages.
const (
	top = iota + first
	mid
	low
	big
)

// loosed is a tree whose table 3 is loose.
func loosed(t *testing.T) both {
	t.Helper()
	b := tree(t)
	so(t, b.loosen(3), "the table is not loosened")
	return b
}

// P16.1: P1, a new one has no loose frames, and changes nothing; the pages that there are, though others made them, are of tables that are protected.
func TestNew(t *testing.T) {
	b := loosed(t)
	b.tell(low, 1, 9, every)
	b.keeps(func() {
		o := guard.New(b.m, b.m.Map, b.s, b.k)
		so(t, len(o.List()) == 0 && !o.Loose(3), "a frame is loose")
		so(t, o.Protected(1) && o.Protected(2) && o.Protected(3) && !o.Protected(8) && !o.Protected(0), "protected are others")
		b.same()
	})
	n := made(t, 12)
	n.put()
	n.same()
	for g := range guestMany {
		so(t, !n.d.Protected(g) && !n.d.Loose(g), "there is a table")
	}
}

// P16.1: P1, protected is what a page is of, with the Role 0, at each level, till it is dropped.
func TestProtected(t *testing.T) {
	for _, k := range []api.Key{key(5, 1), key(5, 2), key(5, 3), key(0, 1), key(15, 3), key(16, 2), key(-1, 1), key(math.MaxInt, 1), key(math.MinInt, 3)} {
		b := made(t, 12)
		so(t, !b.d.Protected(k.G), "it is protected already")
		f, _ := b.make(k)
		so(t, b.d.Protected(k.G) && !b.d.Loose(k.G), "it is not protected")
		so(t, !b.d.Protected(f) && !b.d.Protected(b.x.host(k.G)), "another number is protected")
		b.drop(f)
		so(t, !b.d.Protected(k.G), "it is protected still")
	}
	for _, role := range []int{1, 2} {
		b := made(t, 12)
		b.make(api.Key{G: 5, Level: 1, Role: role})
		so(t, !b.d.Protected(5), "a large page is no table")
		b.page(key(5, 1))
		so(t, b.d.Protected(5), "a page that the store was told to make")
	}
}

// P16.1: P1, a table that is loose is not protected; List tells all, in the order in which they were loosened.
func TestLooseOnesInOrder(t *testing.T) {
	for _, order := range [][]int{{3, 9, 11}, {11, 9, 3}, {9, 3, 11}, {9, 11, 3}} {
		b := tree(t)
		for n, g := range []int{9, 11} {
			f, _ := b.make(key(g, 1))
			b.link(mid, 4+n, f)
		}
		for n, g := range order {
			so(t, b.d.Protected(g) && !b.d.Loose(g), "it is loose already")
			so(t, b.loosen(g), "it is not loosened")
			so(t, !b.d.Protected(g) && b.d.Loose(g) && slices.Equal(b.d.List(), order[:n+1]), "it is not the last one")
		}
		b.look(order[1])
		so(t, slices.Equal(b.d.List(), []int{order[0], order[2]}), "others are loose")
		b.loosen(order[1])
		so(t, slices.Equal(b.d.List(), []int{order[0], order[2], order[1]}), "it is not the last one now")
	}
}

// P16.1: P4, Make of a key that is there: its page, and nothing has changed: leaves that were laid behind the first Make may be written still, a loose table is loose, all that is known is.
func TestMakeOfAKeyThatIsThere(t *testing.T) {
	b := loosed(t)
	b.tell(big, 0, 3, every)
	b.tell(big, 1, 2, every)
	b.tell(big, 2, 8, every)
	b.tell(low, 2, 8, every)
	b.keeps(func() {
		for n, k := range []api.Key{key(1, 3), key(2, 2), key(3, 1), large(8)} {
			f, is := b.make(k)
			so(t, is && f == top+n, "it is another page")
		}
		so(t, b.d.Loose(3), "it is looked through")
		b.is(big, 0, api.Slot{Kind: api.Leaf, To: 3, Right: every})
	})
	for len(b.x.free) > 0 {
		b.make(key(40+len(b.x.free), 1))
	}
	f, is := b.make(key(3, 1))
	so(t, is && f == low, "it is another page, with all frames taken")
}

// P16.1, P16.2: P4, Make of a table forbids it: each leaf to it, of whichever page and right, is one without W, as it was beside; none of another frame is changed.
func TestMakeForbids(t *testing.T) {
	for level := 1; level <= 3; level++ {
		b := tree(t)
		f, _ := b.make(key(10, 1))
		for i, r := range rights {
			b.tell(low, i, 9, r)
			b.tell(big, i, 9, rights[7-i])
			b.tell(f, i, []int{9, 10, 11, 0, 9, 24, -9, 33}[i], r)
		}
		b.forgets(func() { b.make(key(9, level)) })
		for i, r := range rights {
			b.is(low, i, api.Slot{Kind: api.Leaf, To: 9, Right: api.Right{U: r.U, X: r.X}})
			r = rights[7-i]
			b.is(big, i, api.Slot{Kind: api.Leaf, To: 9, Right: api.Right{U: r.U, X: r.X}})
		}
		for _, i := range []int{1, 2, 3, 5, 6, 7} {
			x, _ := b.s.Slot(f, i)
			so(t, x.Right == rights[i], "a leaf of another frame is another one")
		}
	}
}

// P16.1: P4, one leaf with W, in any page and place, is enough that nothing is known any more.
func TestMakeForbidsOneLeaf(t *testing.T) {
	for _, f := range []int{low, big} {
		for i := range 8 {
			for _, r := range rights {
				b := tree(t)
				b.tell(f, i, 9, r)
				do := func() { b.make(key(9, 2)) }
				if r.W {
					b.forgets(do)
				} else {
					b.keeps(do)
				}
				b.is(f, i, api.Slot{Kind: api.Leaf, To: 9, Right: api.Right{U: r.U, X: r.X}})
			}
		}
	}
}

// P16.1: P4, Make of a table that no leaf tells, or leaves without W alone: all that is known is still.
func TestMakeThatForbidsNone(t *testing.T) {
	b := tree(t)
	for i, r := range rights {
		r.W = false
		b.tell(low, i, 9, r)
		b.tell(big, i, 10, every)
	}
	b.keeps(func() {
		b.make(key(9, 1))
		b.make(key(9, 2))
		b.make(key(9, 3))
		b.make(key(11, 1))
		b.make(key(low, 1))
	})
}

// P16.1: P4, a leaf that is forbidden is of the host's frame that the map tells, though it was of another one.
func TestAForbiddenLeafIsOfTheMapsFrame(t *testing.T) {
	b := tree(t)
	for g := range guestMany {
		b.leaf(big, g%8, g, 40, every)
		if _, is := b.s.Find(key(g, 1)); is {
			b.drop(low)
		}
		f, _ := b.make(key(g, 1))
		v, _ := b.h.Get(big, g%8)
		so(t, v == of(image+(g*5+3)%16, p|u), "the word is of another frame")
		b.drop(f)
	}
	b.leaf(big, 0, 9, 40, read)
	b.make(key(9, 1))
	v, _ := b.h.Get(big, 0)
	so(t, v == of(40, p|u), "the word of a leaf without W is another one")
}

// P16.1, P16.2: P4, Make of a table that the guest has not forbids it, too: its leaves are of the host's frame 0.
func TestMakeOfATableThatTheGuestHasNot(t *testing.T) {
	for _, g := range []int{16, 17, 24, 63, 64, 1 << 20, -1, -16, math.MinInt, math.MaxInt} {
		b := tree(t)
		b.leaf(low, 3, g, 30, every)
		b.leaf(big, 5, g, 31, api.Right{W: true})
		b.leaf(big, 6, g, 31, read)
		b.forgets(func() {
			_, is := b.make(key(g, 1))
			so(t, is && b.d.Protected(g), "there is no such page")
		})
		for _, x := range []struct {
			f, i int
			v    uint64
		}{{low, 3, p | u}, {big, 5, p | nx}, {big, 6, of(31, p|u)}} {
			v, _ := b.h.Get(x.f, x.i)
			so(t, v == x.v, "the word is another one")
		}
	}
}

// P16.1: P4, Make of a key with another Role makes a page, and forbids nothing; a loose table of its G is loose still.
func TestMakeOfAnotherRole(t *testing.T) {
	for _, role := range []int{1, 2} {
		b := loosed(t)
		b.tell(low, 0, 9, every)
		b.tell(low, 1, 3, every)
		b.keeps(func() {
			for _, g := range []int{9, 3, 1, 16, -1} {
				_, is := b.make(api.Key{G: g, Level: 1, Role: role})
				so(t, is, "there is no such page")
			}
		})
		so(t, b.d.Loose(3) && !b.d.Protected(9), "a large page is a table's")
		b.is(low, 0, api.Slot{Kind: api.Leaf, To: 9, Right: every})
		b.is(low, 1, api.Slot{Kind: api.Leaf, To: 3, Right: every})
	}
}

// P16.1, P16.3: P4, Make of a table that is loose, of another level: it is looked through, and protected.
func TestMakeOfALooseTable(t *testing.T) {
	for _, level := range []int{2, 3} {
		b := loosed(t)
		b.set(3, 0, of(9, all))
		b.tell(low, 0, 9, every)
		b.tell(low, 1, 9, every)
		b.tell(big, 1, 3, every)
		b.forgets(func() {
			_, is := b.make(key(3, level))
			so(t, is && b.d.Protected(3) && len(b.d.List()) == 0, "it is loose still")
		})
		b.is(low, 0, api.Slot{Kind: api.Leaf, To: 9, Right: every})
		b.empties(low, 1)
		b.is(big, 1, api.Slot{Kind: api.Leaf, To: 3, Right: read})
	}
}

// P16.1: P4, Make of a loose table looks through the table, though no page is made then: with all frames taken, and of a key that is not right.
func TestMakeOfALooseTableThatMakesNone(t *testing.T) {
	for _, level := range []int{2, 3, 0, 4, -1, math.MaxInt} {
		b := loosed(t)
		for len(b.x.free) > 0 {
			b.page(key(40+len(b.x.free), 1))
		}
		b.tell(low, 1, 9, every)
		b.forgets(func() {
			f, is := b.make(key(3, level))
			so(t, f == 0 && !is && b.d.Protected(3), "there is such a page")
		})
		b.empties(low, 1)
	}
}

// P16.1, P2: P4, Make with all frames taken: 0 and false, and nothing has changed.
func TestMakeWithAllFramesTaken(t *testing.T) {
	b := tree(t)
	b.tell(big, 0, 9, every)
	for n := range 8 {
		_, is := b.make(key(30+n, 1))
		so(t, is, "there is no frame left")
	}
	b.keeps(func() {
		for _, k := range []api.Key{key(9, 1), key(9, 2), key(9, 3), large(9), {G: 9, Level: 1, Role: 1}} {
			f, is := b.make(k)
			so(t, f == 0 && !is && !b.d.Protected(9), "there is such a page")
		}
	})
	b.is(big, 0, api.Slot{Kind: api.Leaf, To: 9, Right: every})
	b.drop(top + 4)
	f, is := b.make(key(9, 2))
	so(t, is && f == top+4, "the frame that was given back is not taken")
	b.is(big, 0, api.Slot{Kind: api.Leaf, To: 9, Right: read})
}

// P16.1, P2: P4, Make of keys that are not right: 0 and false, and nothing has changed; of a loose G, too, if the Role is another one.
func TestMakeOfKeysThatAreNotRight(t *testing.T) {
	b := loosed(t)
	b.tell(low, 0, 9, every)
	b.tell(low, 1, 3, every)
	b.keeps(func() {
		for _, n := range odd {
			for _, m := range odd {
				k := api.Key{G: 9, Level: n, Role: m}
				if n >= 1 && n <= 3 && m == 0 || n == 1 && (m == 1 || m == 2) {
					continue
				}
				f, is := b.make(k)
				so(t, f == 0 && !is, "there is such a page")
				if m != 0 {
					f, is = b.make(api.Key{G: 3, Level: n, Role: m})
					so(t, f == 0 && !is && b.d.Loose(3), "there is such a page")
				}
			}
		}
	})
}

// P16.1: P3, the chapter's example: Loosen of a root is false.
func TestLoosenOfARoot(t *testing.T) {
	b := made(t, 3)
	b.make(key(1, 3))
	b.keeps(func() { so(t, !b.loosen(1) && b.d.Protected(1), "a root is loose") })
}

// P16.1: P3, Loosen of a table of the level 1, with one way to it: it is loose, and nothing else has changed.
func TestLoosen(t *testing.T) {
	b := tree(t)
	b.tell(low, 0, 9, every)
	b.tell(low, 1, 3, read)
	b.set(3, 0, of(9, all))
	b.keeps(func() {
		so(t, b.loosen(3) && !b.d.Protected(3), "it is not loose")
		for range 3 {
			so(t, !b.loosen(3) && slices.Equal(b.d.List(), []int{3}), "it is loosened twice")
		}
	})
	b.look(3)
	so(t, b.loosen(3) && b.d.Loose(3), "it is not loose again")
}

// P16.1, P2: P3, Loosen of what may not be loose, each for one reason alone: false, and nothing has changed.
func TestLoosenOfWhatMayNotBeLoose(t *testing.T) {
	for n, c := range []struct {
		g  int
		do func(b both)
	}{
		{1, func(b both) {}},                                     // a root
		{2, func(b both) {}},                                     // of the level 2
		{8, func(b both) { b.link(mid, 3, big) }},                // no table, but a large page
		{9, func(b both) {}},                                     // no page
		{3, func(b both) { b.drop(low) }},                        // none any more
		{3, func(b both) { b.make(key(3, 2)) }},                  // two pages
		{3, func(b both) { b.make(key(3, 3)) }},                  // two pages
		{3, func(b both) { b.clear(mid, 2) }},                    // told by no slot
		{3, func(b both) { b.link(mid, 7, low) }},                // by two
		{3, func(b both) { b.link(b.page(key(9, 2)), 2, low) }},  // by two, of two pages
		{3, func(b both) { b.clear(top, 0) }},                    // the one above by none
		{3, func(b both) { b.link(top, 7, mid) }},                // by two
		{3, func(b both) { b.link(b.page(key(9, 3)), 0, mid) }},  // by two, of two roots
		{3, func(b both) { b.drop(top) }},                        // there is no root
		{3, func(b both) { b.drop(mid) }},                        // there is no page above
		{2, func(b both) { b.drop(low); b.clear(top, 0) }},       // of the level 2, told by none
		{16, func(b both) { b.link(mid, 3, b.page(large(16))) }}, // no table, nor a frame of the guest's
		{2, func(b both) { b.page(key(2, 1)); b.clear(top, 0) }}, // two pages, told by none
		{2, func(b both) { b.link(mid, 3, b.page(key(2, 1))) }},  // two pages, told by one slot each
	} {
		b := tree(t)
		c.do(b)
		b.tell(big, 0, 3, every)
		b.keeps(func() {
			so(t, !b.loosen(c.g), "it is loosened")
			so(t, !b.d.Loose(c.g) && len(b.d.List()) == 0, "it is loose")
		})
		if n > 0 && !b.d.Protected(c.g) && len(b.s.Of(c.g)) > 0 {
			t.Errorf("%d: it is not protected", n)
		}
	}
}

// P16.1: P3, Loosen of a table that no slot, or two, tell, in a store that has the host's frame 0, too: that page is not above it.
func TestLoosenWithTheFrameZero(t *testing.T) {
	h, m := frame.New(20), gmap.New([]int{10, 11, 12, 13}, 20)
	s := store.New(h, 0, 5)
	x := guard.New(guest.New(h, m), m, s, tlb.New(1))
	for n, k := range []api.Key{key(2, 2), key(1, 3), key(3, 1)} {
		f, is := x.Make(k)
		so(t, is && f == n, "there is no such page")
	}
	s.Child(1, 0, 0, every)
	so(t, !x.Loosen(3), "it is loosened, though no slot tells it")
	s.Child(0, 0, 2, every)
	s.Child(0, 1, 2, every)
	so(t, !x.Loosen(3), "it is loosened, though two slots tell it")
	s.Clear(0, 0)
	so(t, x.Loosen(3) && x.Loose(3), "it is not loosened")
}

// P16.1: P3, Loosen counts pages of the Role 0 alone, and slots that are a Child alone: what tells the same numbers otherwise is no way.
func TestLoosenWithOthersAbout(t *testing.T) {
	b := tree(t)
	for _, role := range []int{1, 2} {
		f, _ := b.make(api.Key{G: 3, Level: 1, Role: role})
		b.link(mid, 3+role, f)
		b.tell(f, 0, low, every)
		b.tell(f, 1, mid, every)
		b.tell(low, role, 3, read)
	}
	f, _ := b.make(key(mid, 1))
	b.link(mid, 0, f)
	f, _ = b.make(key(9, 2))
	b.link(top, 3, f)
	so(t, b.loosen(3), "it is not loosened")
	so(t, b.loosen(mid), "another one is not loosened")
	b.look(3)
	b.clear(top, 3)
	b.drop(f)
	so(t, b.loosen(3), "it is not loosened again")
}

// P16.1: P3, a table that the guest has not, and any root's, may be loosened, if it has a page of the level 1 with one way to it.
func TestLoosenOfATableThatTheGuestHasNot(t *testing.T) {
	for _, g := range []int{16, 64, -1, math.MinInt, math.MaxInt} {
		b := tree(t)
		f, _ := b.make(key(g, 1))
		b.link(mid, 7, f)
		so(t, b.loosen(g) && b.d.Loose(g), "it is not loosened")
		b.tell(f, 0, 0, read)
		b.tell(f, 7, 9, every)
		b.forgets(func() { so(t, b.look(g), "it is not looked through") })
		b.empties(f, 0)
		b.empties(f, 7)
	}
}

// P16.1: P3, Look of a frame that is not loose: false, and nothing has changed: of a table that is protected, of one that was looked through, of no table.
func TestLookOfAFrameThatIsNotLoose(t *testing.T) {
	b := tree(t)
	b.tell(low, 0, 9, every)
	b.tell(big, 0, 3, every)
	b.keeps(func() {
		for _, g := range append([]int{low, mid, top, 3, 2, 8, 9}, odd...) {
			so(t, !b.look(g), "it is looked through")
		}
	})
	b.loosen(3)
	b.keeps(func() {
		so(t, !b.look(2) && !b.look(low) && !b.look(-3) && b.d.Loose(3), "another one is looked through")
	})
	so(t, b.look(3), "it is not looked through")
	b.tell(low, 0, 9, every)
	b.keeps(func() { so(t, !b.look(3), "it is looked through twice") })
	b.is(low, 0, api.Slot{Kind: api.Leaf, To: 9, Right: every})
}

// P16.1, P16.3: P3, a leaf that agrees with its entry stays, one that does not, for one reason alone, is cleared.
func TestLeavesThatAgree(t *testing.T) {
	for n, c := range []struct {
		r  api.Right
		v  uint64
		is bool
	}{
		{every, of(9, all), true},
		{every, of(9, all&^p), false},
		{every, of(9, all&^a), false},
		{every, of(9, all&^u), false},
		{every, of(9, all&^w), false},
		{every, of(9, all&^d), false},
		{every, of(9, all|nx), false},
		{every, of(9, all|ps), false},
		{every, of(8, all), false},
		{every, of(10, all), false},
		{every, of(9|1<<19, all), false},
		{every, of(0, all), false},
		{every, 0, false},
		{every, math.MaxUint64, false},
		{read, of(9, all), true},
		{read, of(9, all&^w), true},
		{read, of(9, all&^d), true},
		{read, of(9, p|u|a), true},
		{read, of(9, p|u), false},
		{read, of(9, u|a), false},
		{read, of(9, p|a), false},
		{read, of(9, p|u|a|nx), false},
		{read, of(9, p|u|a|ps), false},
		{read, of(7, p|u|a), false},
		{api.Right{}, of(9, p|a|nx), true},
		{api.Right{}, of(9, p|a), false},
		{api.Right{}, of(9, p|a|u|nx), false},
		{api.Right{}, of(9, p|a|nx|w|d), true},
		{api.Right{W: true}, of(9, p|a|nx|w|d), true},
		{api.Right{W: true}, of(9, p|a|nx|w), false},
		{api.Right{W: true}, of(9, p|a|nx|d), false},
		{api.Right{W: true}, of(9, p|a|w|d), false},
		{api.Right{U: true}, of(9, p|a|u|nx), true},
		{api.Right{X: true}, of(9, p|a), true},
	} {
		for _, i := range []int{0, 3, 7} {
			b := loosed(t)
			b.set(3, i, c.v)
			b.tell(low, i, 9, c.r)
			b.forgets(func() { so(t, b.look(3), "it is not looked through") })
			want := api.Slot{}
			if c.is {
				want = api.Slot{Kind: api.Leaf, To: 9, Right: c.r}
			}
			if got, _ := b.s.Slot(low, i); got != want {
				t.Errorf("%d: the leaf %d is %v, not %v", n, i, got, want)
			}
		}
	}
}

// P16.1, P16.3: P3, an entry with a bit that none has agrees with nothing, whichever it is.
func TestBadEntriesAgreeWithNothing(t *testing.T) {
	for bit := range 64 {
		b := loosed(t)
		known := bit <= 2 || bit >= 5 && bit <= 7 || bit >= 12 && bit <= 31 || bit == 63
		b.set(3, 0, of(9, all)|1<<bit)
		b.set(3, 1, of(9, p|u|a)|1<<bit)
		b.tell(low, 0, 9, every)
		b.tell(low, 1, 9, read)
		b.look(3)
		if !known {
			b.empties(low, 0)
			b.empties(low, 1)
		}
	}
}

// P16.1, P16.3: P3, every leaf against every entry: all rights, all flags, like frames and unlike ones, with a bad bit and without, at each place.
func TestAllLeavesAgainstAllEntries(t *testing.T) {
	b := loosed(t)
	bits := []uint64{p, w, u, a, d, ps, nx, 1 << 12, 1 << 31, 1 << 3, 1 << 62}
	many := 0
	for n := range 1 << len(bits) {
		v := of(8, 0)
		for m, bit := range bits {
			if n>>m&1 == 1 {
				v |= bit
			}
		}
		for i, r := range rights {
			b.set(3, i, v)
			b.tell(low, i, 9, r)
		}
		so(t, b.d.Look(3) && b.x.look(3), "it is not looked through")
		for i, r := range rights {
			x, _ := b.s.Slot(low, i)
			want := n&(p|1<<3|1<<5|1<<7|1<<8|1<<9|1<<10) == 1<<0|1<<3|1<<7 && (n&4 != 0) == r.U && (n&64 == 0) == r.X && (!r.W || n&18 == 18)
			if (x == api.Slot{Kind: api.Leaf, To: 9, Right: r}) != want || !want && x != (api.Slot{}) {
				t.Fatalf("the leaf of %v is %v behind a look at %x", r, x, v)
			}
			if want {
				many++
			}
		}
		so(t, b.d.Loosen(3) && b.x.loosen(3), "it is not loosened")
	}
	b.same()
	so(t, many == 4*(4+1), "others agree")
}

// P16.1: P3, each leaf is held against the entry of its own place, of the table's own frame.
func TestLookGoesByPlaces(t *testing.T) {
	for i := range 8 {
		b := loosed(t)
		b.set(3, i, of(9, all))
		for j := range 8 {
			b.set(2, j, of(9, all))
			b.set(4, j, of(9, all))
			b.tell(low, j, 9, every)
			b.tell(big, j, 9, every)
		}
		b.look(3)
		for j := range 8 {
			x, _ := b.s.Slot(low, j)
			so(t, (x.Kind == api.Leaf) == (j == i), "another leaf stays")
			b.is(big, j, api.Slot{Kind: api.Leaf, To: 9, Right: every})
		}
	}
}

// P16.1: P3, the leaf's own frame is held against the entry's, not the host's that its word is of.
func TestLookGoesByTheGuestsFrames(t *testing.T) {
	b := loosed(t)
	b.set(3, 0, of(9, all))
	b.set(3, 1, of(b.x.hosts[9], all))
	b.set(3, 2, of(26, all))
	b.leaf(low, 0, 9, 40, every)
	b.leaf(low, 1, 9, b.x.hosts[9], every)
	b.leaf(low, 2, 26, 26, every)
	b.look(3)
	b.is(low, 0, api.Slot{Kind: api.Leaf, To: 9, Right: every})
	b.empties(low, 1)
	b.is(low, 2, api.Slot{Kind: api.Leaf, To: 26, Right: every})
}

// P16.1, P16.2: P3, a leaf that tells the table itself is forbidden ahead of being held against its entry, which then need not permit a write.
func TestALeafThatTellsTheTableItself(t *testing.T) {
	b := loosed(t)
	for i, v := range []uint64{of(3, all), of(3, p|u|a), of(3, all&^d), of(3, all&^w), of(3, all&^a), of(9, all), 0} {
		b.set(3, i, v)
		b.tell(low, i, 3, every)
	}
	b.forgets(func() { b.look(3) })
	for i := range 7 {
		if i < 4 {
			b.is(low, i, api.Slot{Kind: api.Leaf, To: 3, Right: read})
		} else {
			b.empties(low, i)
		}
	}
}

// P16.1, P16.2: P3, Look forbids the leaves of other pages to the table, that may stay though no entry agrees with them.
func TestLookForbids(t *testing.T) {
	b := loosed(t)
	f, _ := b.make(key(10, 1))
	for i, r := range rights {
		b.tell(f, i, 3, r)
		b.tell(big, i, 3+i%2, every)
	}
	b.forgets(func() { b.look(3) })
	for i, r := range rights {
		b.is(f, i, api.Slot{Kind: api.Leaf, To: 3, Right: api.Right{U: r.U, X: r.X}})
		b.is(big, i, api.Slot{Kind: api.Leaf, To: 3 + i%2, Right: api.Right{W: i%2 == 1, U: true, X: true}})
	}
}

// P16.1: P3, behind a Look nothing is known, though all leaves agree, none is there, or the store has no page of the table any more.
func TestLookForgets(t *testing.T) {
	b := loosed(t)
	b.set(3, 0, of(9, all))
	b.forgets(func() { b.look(3) })
	b.loosen(3)
	b.tell(low, 0, 9, every)
	b.forgets(func() { b.look(3) })
	b.loosen(3)
	b.gone(low)
	b.same()
	so(t, b.d.Loose(3) && !b.d.Protected(3), "it is loose no more")
	b.tell(big, 0, 3, every)
	b.forgets(func() { so(t, b.look(3) && !b.look(3), "it is not looked through") })
	b.is(big, 0, api.Slot{Kind: api.Leaf, To: 3, Right: read})
}

// P16.1: P3, Look of a loose table that got other pages since, by the store itself: a Child of these stays.
func TestLookOfATableWithOtherPages(t *testing.T) {
	b := loosed(t)
	up, over, role := b.page(key(3, 2)), b.page(key(3, 3)), b.page(api.Key{G: 3, Level: 1, Role: 1})
	b.link(up, 0, low)
	b.link(over, 1, up)
	b.tell(role, 2, 9, every)
	b.tell(low, 2, 9, every)
	b.look(3)
	b.is(up, 0, api.Slot{Kind: api.Child, To: low, Right: every})
	b.is(over, 1, api.Slot{Kind: api.Child, To: up, Right: every})
	b.is(role, 2, api.Slot{Kind: api.Leaf, To: 9, Right: every})
	b.empties(low, 2)
	b.gone(low)
	b.gone(up)
	b.gone(over)
	l, _ := b.make(key(3, 1))
	b.link(mid, 2, l)
	b.loosen(3)
	b.gone(l)
	x := b.page(key(9, 1))
	b.page(key(3, 2))
	n := b.page(key(3, 1))
	b.tell(x, 0, 9, every)
	b.tell(n, 0, 9, every)
	b.look(3)
	b.is(x, 0, api.Slot{Kind: api.Leaf, To: 9, Right: every})
	b.empties(n, 0)
}

// P16.1: P3, All with no loose frame changes nothing; with one it is a Look.
func TestAllOfNoneAndOfOne(t *testing.T) {
	b := tree(t)
	b.tell(low, 0, 9, every)
	b.tell(big, 0, 3, every)
	b.keeps(func() { b.each() })
	b.is(low, 0, api.Slot{Kind: api.Leaf, To: 9, Right: every})
	b.loosen(3)
	b.set(3, 1, of(9, p|a|u))
	b.tell(low, 1, 9, read)
	b.forgets(func() { b.each() })
	b.empties(low, 0)
	b.is(low, 1, api.Slot{Kind: api.Leaf, To: 9, Right: read})
	b.is(big, 0, api.Slot{Kind: api.Leaf, To: 3, Right: read})
	so(t, len(b.d.List()) == 0 && b.d.Protected(3), "it is loose still")
	b.keeps(func() { b.each() })
}

// P16.1: P3, All looks in order: a leaf of one loose table to another one is forbidden first, and agrees then, or is held against its entry first, and does not.
func TestAllInOrder(t *testing.T) {
	for _, order := range [][]int{{3, 9, 11}, {11, 9, 3}, {9, 3, 11}, {3, 11, 9}, {9, 11, 3}, {11, 3, 9}} {
		b := tree(t)
		at := map[int]int{3: low}
		for n, g := range []int{9, 11} {
			at[g], _ = b.make(key(g, 1))
			b.link(mid, 4+n, at[g])
		}
		for _, g := range order {
			b.loosen(g)
		}
		for i, to := range []int{3, 9, 11} {
			for g, f := range at {
				b.set(g, i, of(to, all&^d))
				b.tell(f, i, to, every)
			}
		}
		b.forgets(func() { b.each() })
		for i, to := range []int{3, 9, 11} {
			for g, f := range at {
				if slices.Index(order, to) <= slices.Index(order, g) {
					b.is(f, i, api.Slot{Kind: api.Leaf, To: to, Right: read})
				} else {
					b.empties(f, i)
				}
			}
		}
		so(t, len(b.d.List()) == 0, "a frame is loose still")
	}
}

// P16.1: P4, Drop of each page that there is: it is gone, what told it is empty, and nothing is known any more.
func TestDrop(t *testing.T) {
	for n, k := range []api.Key{key(1, 3), key(2, 2), key(3, 1), large(8)} {
		b := tree(t)
		b.link(mid, 5, big)
		b.tell(big, 1, 9, every)
		b.forgets(func() { so(t, b.drop(top+n), "it is not dropped") })
		_, is := b.s.Find(k)
		so(t, !is && !b.d.Protected(k.G) && len(b.s.Parents(top+n)) == 0, "it is there still")
		b.keeps(func() { so(t, !b.drop(top+n), "it is dropped twice") })
		f, _ := b.make(key(12, 1))
		so(t, f == top+n, "its frame is not the next one")
	}
}

// P16.1, P2: P4, Drop of no page: false, and nothing has changed.
func TestDropOfNoPage(t *testing.T) {
	b := loosed(t)
	b.keeps(func() {
		for _, f := range append([]int{big + 1, 15, 16, 24, first - 1, math.MinInt + low, low + 1<<32, low - 1<<32}, odd...) {
			if f < top || f > big {
				so(t, !b.drop(f), "it is dropped")
			}
		}
	})
	so(t, b.d.Loose(3), "it is loose no more")
	n := made(t, 0)
	n.keeps(func() { so(t, !n.drop(first) && !n.drop(0), "it is dropped") })
}

// P16.1: P4, Drop of a loose table's page: it is loose no more, and not looked through; others are loose still, in order.
func TestDropOfALooseTable(t *testing.T) {
	b := tree(t)
	for n, g := range []int{9, 11} {
		f, _ := b.make(key(g, 1))
		b.link(mid, 4+n, f)
	}
	for _, g := range []int{9, 3, 11} {
		b.loosen(g)
	}
	b.tell(big, 0, 3, every)
	b.tell(big, 1, 9, every)
	b.forgets(func() { b.drop(low) })
	so(t, slices.Equal(b.d.List(), []int{9, 11}) && !b.d.Protected(3) && !b.d.Loose(3), "others are loose")
	b.is(big, 0, api.Slot{Kind: api.Leaf, To: 3, Right: every})
	b.is(big, 1, api.Slot{Kind: api.Leaf, To: 9, Right: every})
	b.keeps(func() { so(t, !b.look(3), "it is looked through") })
	b.make(key(3, 1))
	so(t, b.d.Protected(3), "its next page is of a loose table")
	b.is(big, 0, api.Slot{Kind: api.Leaf, To: 3, Right: read})
}

// P16.1: P4, Drop of one of two pages of a table: it is protected still, or, if it was loose, it is so again.
func TestDropOfOneOfTwoPages(t *testing.T) {
	for _, level := range []int{2, 3} {
		for _, loose := range []bool{false, true} {
			b := tree(t)
			so(t, !loose || b.loosen(3), "it is not loosened")
			f := b.page(key(3, level))
			b.forgets(func() { so(t, b.drop(f), "it is not dropped") })
			so(t, b.d.Protected(3) && !b.d.Loose(3), "it is not protected")
			so(t, b.loosen(3), "it is not loosened with one page left")
			b.drop(low)
			so(t, !b.d.Protected(3) && !b.d.Loose(3), "it has a page still")
		}
	}
}

// P16.1: P4, Drop of a page with another Role: a loose table of its G is loose still.
func TestDropOfAnotherRole(t *testing.T) {
	for _, role := range []int{1, 2} {
		b := loosed(t)
		f, _ := b.make(api.Key{G: 3, Level: 1, Role: role})
		b.forgets(func() { so(t, b.drop(f), "it is not dropped") })
		so(t, slices.Equal(b.d.List(), []int{3}), "it is loose no more")
	}
}

// P16.1: P2, Zap of a slot of each kind: it is empty, and nothing is known any more; of one that is empty, or that there is not, nothing has changed.
func TestZap(t *testing.T) {
	b := loosed(t)
	b.tell(low, 7, 9, every)
	b.tell(big, 0, 9, api.Right{})
	for _, at := range []api.At{{G: top, I: 0}, {G: mid, I: 2}, {G: low, I: 7}, {G: big, I: 0}} {
		for i := range 8 {
			if i != at.I {
				b.keeps(func() { so(t, !b.zap(at.G, i), "an empty one is cleared") })
			}
		}
		b.keeps(func() {
			for _, n := range odd {
				so(t, n >= top && n <= big || !b.zap(n, at.I), "one of no page is cleared")
				so(t, n >= 0 && n <= 7 || !b.zap(at.G, n), "one that there is not is cleared")
			}
		})
		b.forgets(func() { so(t, b.zap(at.G, at.I), "it is not cleared") })
		b.empties(at.G, at.I)
		b.keeps(func() { so(t, !b.zap(at.G, at.I), "it is cleared twice") })
	}
	so(t, b.d.Loose(3), "a frame is loose no more")
}

// P16.1: P2, Word of a table with no page, with one, and with several: each of these is empty at that place, and no other.
func TestWord(t *testing.T) {
	b := tree(t)
	for _, n := range []int{3, 2} {
		f, _ := b.make(key(3, n))
		role, _ := b.make(api.Key{G: 3, Level: 1, Role: n - 1})
		for i := range 8 {
			b.child(f, i, map[int]int{3: mid, 2: low}[n], every)
			b.tell(role, i, 9, every)
			b.tell(low, i, 3, read)
			b.tell(big, i, 3, read)
		}
	}
	for i := range 8 {
		b.keeps(func() {
			for _, g := range []int{8, 9, 0, 16, -1, low, math.MaxInt, math.MinInt} {
				b.word(g, i)
			}
		})
		b.forgets(func() { b.word(3, i) })
		for _, f := range b.s.Of(3) {
			b.empties(f, i)
			if i < 7 {
				x, _ := b.s.Slot(f, i+1)
				so(t, x.Kind != api.Empty, "another one is empty, too")
			}
		}
		b.keeps(func() { b.word(3, i) })
	}
	so(t, len(b.s.Of(3)) == 3 && len(b.s.Leaves(9)) == 16 && len(b.s.Leaves(3)) == 8, "a slot of another page is empty")
}

// P16.1: P2, Word of a table, of whose pages one alone tells something there, the first, one between or the last; of places that there are not.
func TestWordOfOneOfSeveral(t *testing.T) {
	for n := range 3 {
		b := tree(t)
		l := []int{low, b.page(key(3, 2)), b.page(key(3, 3))}
		switch n {
		case 0:
			b.tell(low, 4, 9, every)
		case 1:
			b.link(l[1], 4, big)
		default:
			b.link(l[2], 4, mid)
		}
		b.keeps(func() {
			for _, i := range odd {
				if i != 4 {
					b.word(3, i)
				}
			}
		})
		b.forgets(func() { b.word(3, 4) })
		b.empties(l[n], 4)
	}
}

// from are the numbers from one on, so many.
func from(n, many int) []int {
	var l []int
	for i := range many {
		l = append(l, n+i)
	}
	return l
}

// reaches tells where Reach answers another list.
func (b both) reaches(root, f, i int, want ...int) {
	b.t.Helper()
	if l := b.reach(root, f, i); !slices.Equal(l, want) {
		b.t.Fatalf("Reach(%d, %d, %d) is %v, not %v", root, f, i, l, want)
	}
}

// P16.1: P1, Reach of the root's page: the 64 pages of the slot, whatever it tells.
func TestReachOfTheRootsPage(t *testing.T) {
	b := tree(t)
	for i := range 8 {
		b.reaches(1, top, i, from(64*i, 64)...)
	}
	n := made(t, 1)
	n.make(key(-5, 3))
	n.reaches(-5, first, 6, from(384, 64)...)
	n.reaches(5, first, 6)
}

// P16.1: P1, Reach of a page of the level 2 that is told by no slot, by one, and by two, the least first.
func TestReachOfTheLevelTwo(t *testing.T) {
	for i := range 8 {
		b := tree(t)
		b.reaches(1, mid, i, from(8*i, 8)...)
		b.link(top, 7, mid)
		b.reaches(1, mid, i, append(from(8*i, 8), from(448+8*i, 8)...)...)
		b.link(top, 3, mid)
		b.reaches(1, mid, i, append(append(from(8*i, 8), from(192+8*i, 8)...), from(448+8*i, 8)...)...)
		b.clear(top, 0)
		b.clear(top, 7)
		b.reaches(1, mid, i, from(192+8*i, 8)...)
		b.clear(top, 3)
		b.reaches(1, mid, i)
		b.reaches(1, low, i)
	}
}

// P16.1: P1, Reach of a page of the level 1, by one way, by several, and by none: one for each, the least first.
func TestReachOfTheLevelOne(t *testing.T) {
	for i := range 8 {
		b := tree(t)
		b.reaches(1, low, i, 16+i)
		b.link(mid, 1, low)
		b.reaches(1, low, i, 8+i, 16+i)
		b.link(top, 5, mid)
		b.reaches(1, low, i, 8+i, 16+i, 328+i, 336+i)
		f, _ := b.make(key(9, 2))
		b.link(f, 7, low)
		b.reaches(1, low, i, 8+i, 16+i, 328+i, 336+i)
		b.link(top, 2, f)
		b.reaches(1, low, i, 8+i, 16+i, 128+56+i, 328+i, 336+i)
		b.reaches(1, big, i)
		b.link(f, 0, big)
		b.reaches(1, big, i, 128+i)
		b.clear(top, 0)
		b.clear(top, 2)
		b.reaches(1, low, i, 328+i, 336+i)
		b.clear(top, 5)
		b.reaches(1, low, i)
	}
}

// P16.1: P1, Reach goes from the page of that root, of the level 3 and the Role 0, alone.
func TestReachOfOtherRoots(t *testing.T) {
	b := tree(t)
	other, _ := b.make(key(5, 3))
	b.link(other, 4, mid)
	b.reaches(5, low, 1, 256+17)
	b.reaches(1, low, 1, 17)
	b.reaches(5, mid, 0, from(256, 8)...)
	b.reaches(5, top, 0)
	b.reaches(1, other, 0)
	b.reaches(5, other, 4, from(256, 64)...)
	for _, root := range []int{0, 2, 3, 4, 8, top, other, 6, -1, -5, 16, 1 + 1<<32, math.MinInt, math.MaxInt} {
		for _, f := range []int{top, mid, low, big, other} {
			b.reaches(root, f, 1)
		}
	}
	b.drop(top)
	b.reaches(1, low, 1)
	b.reaches(1, top, 1)
	b.reaches(5, low, 1, 256+17)
}

// P16.1: P1, Reach of slots and pages that there are not: none.
func TestReachOfNone(t *testing.T) {
	b := tree(t)
	b.tell(low, 0, big, every)
	b.tell(low, 1, mid, every)
	b.tell(low, 2, low, every)
	for _, n := range odd {
		for _, f := range []int{top, mid, low, big} {
			if n < 0 || n > 7 {
				b.reaches(1, f, n)
			}
		}
		if n < top || n > low {
			b.reaches(1, n, 0)
		}
	}
	b.reaches(1, low, 2, 18)
}

// P16.1: P1, a leaf to a number that a page has is no way to it; nor does what a slot permits alter its way.
func TestReachGoesByChildrenAlone(t *testing.T) {
	b := tree(t)
	for i, r := range rights {
		b.child(top, i, mid, r)
		b.child(mid, i, low, r)
		b.tell(low, i, big, every)
	}
	for i := range 8 {
		var want []int
		for n := range 64 {
			want = append(want, n*8+i)
		}
		b.reaches(1, low, i, want...)
		b.reaches(1, big, i)
	}
}

// P3: what comes out is new memory, its spare room too; nothing that the caller does to it changes anything, nor what comes behind it the list.
func TestListsAreNewMemory(t *testing.T) {
	b := loosed(t)
	f, _ := b.make(key(9, 1))
	b.link(mid, 0, f)
	for range 2 {
		l, m := b.d.List(), b.d.Reach(1, top, 2)
		for _, x := range [][]int{l, m} {
			for i := range x[:cap(x)] {
				x[:cap(x)][i] = -9
			}
		}
		b.same()
		b.reach(1, top, 2)
	}
	l, m := b.d.List(), b.d.Reach(1, low, 2)
	b.loosen(9)
	b.look(3)
	b.clear(top, 0)
	so(t, slices.Equal(l, []int{3}) && slices.Equal(m, []int{18}), "a list is changed by what comes behind it")
}

// P3: guards of unlike stores and TLBs are apart; two of the same have each its own loose frames.
func TestGuardsAreApart(t *testing.T) {
	b, o := loosed(t), tree(t)
	o.put()
	b.look(3)
	b.make(key(9, 1))
	b.drop(low)
	o.same()
	two := guard.New(o.m, o.m.Map, o.s, o.k)
	so(t, two.Loosen(3) && !o.d.Loose(3) && o.d.Protected(3), "the other one's frame is loose")
	o.same()
	o.loosen(3)
	so(t, o.look(3) && two.Loose(3), "the other one's frame is loose no more")
}

// P3: the map, the memory, the store and the TLB are those that were handed in: leaves go by the map, entries by the memory.
func TestItIsOfWhatWasHandedIn(t *testing.T) {
	h, other := frame.New(40), frame.New(20)
	m, far := gmap.New([]int{30, 31, 32, 33}, 40), gmap.New([]int{3, 2, 1}, 20)
	g, s, k := guest.New(other, far), store.New(h, 4, 8), tlb.New(4)
	x := guard.New(g, m, s, k)
	a, _ := x.Make(key(7, 3))
	b, _ := x.Make(key(8, 2))
	c, _ := x.Make(key(1, 1))
	s.Child(a, 0, b, every)
	s.Child(b, 0, c, every)
	so(t, x.Loosen(1), "it is not loosened")
	other.Set(2, 0, of(5, all))
	other.Set(2, 1, of(1, all&^d))
	s.Leaf(c, 0, 5, 20, every)
	s.Leaf(c, 1, 1, 20, every)
	s.Leaf(c, 2, 6, 20, every)
	x.Look(1)
	v, _ := h.Get(c, 0)
	so(t, v == of(20, p|w|u), "the first leaf is another one")
	v, _ = h.Get(c, 1)
	so(t, v == of(31, p|u), "the second leaf is another one")
	v, _ = h.Get(c, 2)
	so(t, v == 0, "the third leaf is there still")
	x.Loosen(1)
	s.Leaf(c, 3, 3, 20, every)
	x.Make(key(3, 1))
	v, _ = h.Get(c, 3)
	so(t, v == of(33, p|u), "the fourth leaf is another one")
}

// numbers are pseudo-random, the same each time.
type numbers uint64

func (x *numbers) next(n int) int {
	*x = *x*6364136223846793005 + 1442695040888963407
	return int(uint64(*x) >> 33 % uint64(n))
}

// entry is a word of any kind, mostly one that agrees with many leaves.
func (x *numbers) entry() uint64 {
	v := of(x.next(6), all)
	for _, c := range []struct {
		bit uint64
		one int
	}{{p, 12}, {w, 4}, {u, 4}, {nx, 4}, {a, 8}, {d, 4}, {ps, 12}, {1 << 9, 20}, {1 << 40, 20}} {
		if x.next(c.one) == 0 {
			v ^= c.bit
		}
	}
	return v
}

// anyPage is the frame of a page that there is, mostly.
func (b both) anyPage(x *numbers) int {
	if n := len(b.x.pages); n > 0 && x.next(12) > 0 {
		return b.x.pages[x.next(n)].frame
	}
	return x.next(hostMany+2) - 1
}

// lay has a slot be another one, as the numbers say; with may it is a leaf with W only to a frame that may be written.
func (b both) lay(x *numbers, may bool) {
	b.t.Helper()
	f, i, r := b.anyPage(x), x.next(8), rights[x.next(8)]
	if y := b.x.page(f); y != nil && y.key.Level > 1 {
		b.child(f, i, b.anyPage(x), r)
		return
	}
	g := x.next(7)
	if x.next(3) > 0 && b.x.page(f) != nil {
		g = int(b.x.words[b.x.host(b.x.page(f).key.G)][i] >> 12 & 7)
	}
	if may && b.d.Protected(g) {
		r.W = false
	}
	b.leaf(f, i, g, b.x.host(g), r)
}

// hang has a page that no slot tells be told by one, if there is a page of the level above.
func (b both) hang(x *numbers) {
	f := b.anyPage(x)
	if len(b.x.parents(f)) > 0 {
		return
	}
	for range 20 {
		if b.child(b.anyPage(x), x.next(8), f, rights[x.next(8)]) {
			return
		}
	}
}

// step does one of the calls on both, as the numbers say.
func (b both) step(x *numbers, may bool) {
	b.t.Helper()
	g := x.next(7)
	switch x.next(30) {
	case 24, 25, 26, 27, 28, 29:
		b.hang(x)
	case 0, 1, 2, 3:
		// Mostly each frame is a table of one level, so that some may be loose.
		k := key(g, []int{3, 2, 1, 1, 1, 2, 1}[g])
		if x.next(6) == 0 {
			k.Level, k.Role = x.next(4), x.next(2)*x.next(3)
		}
		b.make(k)
	case 4:
		b.drop(b.anyPage(x))
	case 5:
		b.zap(b.anyPage(x), x.next(9)-1)
	case 6:
		b.word(g, x.next(10)-1)
	case 7, 8, 9:
		b.loosen(g)
	case 10, 11:
		b.look(g)
	case 12:
		b.each()
	case 13, 14:
		b.reach(g, b.anyPage(x), x.next(10)-1)
	case 15, 16:
		b.set(g, x.next(8), x.entry())
	case 17:
		b.put()
	default:
		b.lay(x, may)
	}
}

// P16.1: P1 to P4, long runs of all calls, by the guard and by others, held against a plain one at each step.
func TestLongRuns(t *testing.T) {
	x := numbers(16)
	loose := 0
	for _, pool := range []int{1, 3, 5, 8, 12, 20} {
		b := made(t, pool)
		for n := range 4000 {
			if n%1000 == 999 {
				b.gone(b.anyPage(&x))
			}
			b.step(&x, false)
			b.same()
			loose = max(loose, len(b.x.loose))
		}
	}
	so(t, loose > 1, "never were several frames loose")
}

// wrong is a leaf that tells a protected frame with W; false: there is none.
func (b both) wrong() (api.At, bool) {
	for _, f := range b.s.All() {
		for i := range 8 {
			if x, _ := b.s.Slot(f, i); x.Kind == api.Leaf && x.Right.W && b.d.Protected(x.To) {
				return api.At{G: f, I: i}, true
			}
		}
	}
	return api.At{}, false
}

// P16.2: no leaf tells a protected frame with W, at each step of long runs in which none is laid so.
func TestNoLeafTellsAProtectedFrameWithW(t *testing.T) {
	x := numbers(2)
	many := 0
	for _, pool := range []int{4, 7, 12} {
		b := made(t, pool)
		for range 6000 {
			was := b.d.List()
			b.step(&x, true)
			if at, is := b.wrong(); is {
				t.Fatalf("the leaf %v may be written", at)
			}
			many += len(was)
		}
	}
	so(t, many > 1000, "few were loose")
}

// P16.3: behind a Look each leaf of the table's pages agrees with its entry, in long runs of any leaves and entries.
func TestBehindALookAllLeavesAgree(t *testing.T) {
	x := numbers(3)
	kept, gone := 0, 0
	for range 3000 {
		b := loosed(t)
		var was [8]api.Slot
		for i := range 8 {
			b.set(3, i, x.entry())
			b.tell(low, i, x.next(6), rights[x.next(8)])
			was[i], _ = b.s.Slot(low, i)
		}
		b.look(3)
		for i := range 8 {
			v, _ := b.m.Get(3, i)
			z, _ := b.s.Slot(low, i)
			so(t, z.Kind == api.Empty || agreed(z, v), "a leaf does not agree")
			if was[i].To == 3 {
				was[i].Right.W = false
			}
			so(t, z == was[i] || z.Kind == api.Empty && !agreed(was[i], v), "a leaf is another one")
			if z.Kind == api.Empty {
				gone++
			} else {
				kept++
			}
		}
	}
	so(t, kept > 500 && gone > 500, "they are not of many kinds")
}

// P16.4: no call changes a word of the guest's memory, whatever leaves tell of it.
func TestNoWordOfTheGuestsIsChanged(t *testing.T) {
	x := numbers(4)
	for range 20 {
		b := loosed(t)
		for g := range guestMany {
			for i := range 8 {
				b.set(g, i, x.entry())
			}
		}
		was := b.m.All()
		for range 300 {
			b.d.Make(api.Key{G: x.next(9), Level: x.next(4), Role: x.next(2)})
			b.d.Reach(x.next(9), first+x.next(12), x.next(8))
			b.d.Loosen(x.next(9))
			b.s.Child(first+x.next(12), x.next(8), first+x.next(12), every)
			b.s.Leaf(first+x.next(12), x.next(8), x.next(9), b.x.host(x.next(9)), every)
			switch x.next(8) {
			case 0:
				b.d.Drop(first + x.next(12))
			case 1:
				b.d.Zap(first+x.next(12), x.next(8))
			case 2:
				b.d.Word(x.next(9), x.next(8))
			case 3:
				b.d.Look(x.next(9))
			case 4:
				b.d.All()
			}
			so(t, slices.Equal(b.m.All(), was), "a word of the guest's is another one")
		}
	}
}

// P16.1: all short runs of few calls, of two tables, from a tree whose leaves may be written.
func TestAllShortRuns(t *testing.T) {
	var b both
	calls := []func(){
		func() { b.make(key(9, 1)) },
		func() { b.make(key(3, 2)) },
		func() { b.make(key(3, 1)) },
		func() { b.loosen(3) },
		func() { b.look(3) },
		func() { b.each() },
		func() { b.drop(low) },
		func() { b.drop(mid) },
		func() { b.word(3, 0) },
		func() { b.zap(low, 1) },
		func() { b.set(3, 1, of(9, p|u|a)) },
		func() { b.leaf(low, 1, 9, b.x.host(9), every) },
		func() { b.leaf(big, 1, 3, b.x.host(3), every) },
		func() { b.child(mid, 2, top+4, every) },
		func() { b.put() },
	}
	for run := range len(calls) * len(calls) * len(calls) {
		b = tree(t)
		b.set(3, 0, of(9, all))
		b.tell(low, 0, 9, every)
		b.tell(low, 1, 3, every)
		for n, rest := 0, run; n < 3; n, rest = n+1, rest/len(calls) {
			calls[rest%len(calls)]()
			b.reach(1, low, 1)
		}
	}
}

// P3: guards to which the same is done tell the same; asking changes nothing between.
func TestTheSameIsTold(t *testing.T) {
	x, y, z := numbers(5), numbers(5), numbers(6)
	one, two := made(t, 9), made(t, 9)
	for range 2000 {
		one.step(&x, false)
		two.d.Reach(z.next(9), first+z.next(9), z.next(8))
		two.d.Protected(z.next(9))
		two.d.Loose(z.next(9))
		two.d.List()
		two.step(&y, false)
		so(t, one.h.Same(two.h) && slices.Equal(one.k.List(), two.k.List()) && slices.Equal(one.d.List(), two.d.List()), "they are not the same")
	}
}

// P1: every call ends and none panics, at all arguments, and comes out as the chapter tells.
func TestNothingPanics(t *testing.T) {
	for _, b := range []both{loosed(t), made(t, 2), made(t, 0)} {
		for _, n := range odd {
			b.tells(n)
			b.loosen(n)
			b.look(n)
			for _, m := range odd {
				b.put()
				b.word(n, m)
				b.zap(n, m)
				b.reach(n, low, m)
				b.reach(1, n, m)
				b.reach(n, m, 1)
			}
		}
		b.each()
		for _, n := range odd {
			for _, m := range odd {
				b.make(api.Key{G: n, Level: m, Role: n})
				b.make(api.Key{G: 3, Level: n, Role: m})
				b.make(api.Key{G: m, Level: 1, Role: n})
			}
			b.drop(n)
			b.loosen(n)
		}
		b.each()
	}
}

// P1: nor does any with a map of frames that the host has not, nor with a memory of fewer frames than the map.
func TestNothingPanicsWithoutFrames(t *testing.T) {
	h, m := frame.New(8), gmap.New([]int{40, 7, 41}, 64)
	s, k := store.New(h, 0, 6), tlb.New(1)
	x := guard.New(guest.New(h, m), m, s, k)
	for n, l := range []api.Key{key(5, 3), key(6, 2), key(0, 1)} {
		x.Make(l)
		s.Child(n-1, 0, n, every)
	}
	s.Leaf(2, 0, 2, 1, every)
	s.Leaf(2, 1, 1, 1, every)
	so(t, x.Loosen(0), "it is not loosened")
	x.Make(key(2, 1))
	x.Make(key(1, 1))
	so(t, x.Look(0), "it is not looked through")
	for i := range 8 {
		z, _ := s.Slot(2, i)
		so(t, z == api.Slot{}, "a leaf agrees with a word that there is not")
	}
}
