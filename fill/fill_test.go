package fill_test

import (
	"math"
	"slices"
	"testing"

	"silhouette/api"
	"silhouette/fill"
	"silhouette/frame"
	"silhouette/gmap"
	"silhouette/guard"
	"silhouette/guest"
	"silhouette/mmu"
	"silhouette/right"
	"silhouette/store"
	"silhouette/tlb"
	"silhouette/walk"
)

// odd are numbers about every edge.
var odd = []int{math.MinInt, math.MinInt + 1, math.MinInt32, -1 << 32, -257, -64, -9, -8, -7, -3, -2, -1, 0, 1, 2, 3, 4, 5, 7, 8, 9, 15, 16, 17, 39, 40, 41, 63, 64, 255, 256, 257, 512, 1<<20 - 1, 1 << 20, math.MaxInt32, 1 << 32, 1<<32 + 1, 1<<32 + 3, 1 << 62, math.MaxInt - 1, math.MaxInt}

// rights are all that there are.
var rights = []api.Right{{}, {W: true}, {U: true}, {W: true, U: true}, {X: true}, {W: true, X: true}, {U: true, X: true}, {W: true, U: true, X: true}}

// every is the right to all, and read the same without W.
var (
	every = api.Right{W: true, U: true, X: true}
	read  = api.Right{U: true, X: true}
)

// Bits of entries, as the document tells them.
const (
	p  = 1
	w  = 2
	u  = 4
	a  = 32
	d  = 64
	ps = 128
	nx = 1 << 63
)

// all are the bits of an entry that permits all, and was used and written to.
const all = p | w | u | a | d

// of is a word of the frame f, that has those bits.
func of(f int, bits uint64) uint64 { return uint64(f)<<12 | bits }

// key is one of a table, clean one of a large page that was not written to, and dirty one of a large page that was.
func key(g, level int) api.Key { return api.Key{G: g, Level: level} }

func clean(g int) api.Key { return api.Key{G: g, Level: 1, Role: 1} }

func dirty(g int) api.Key { return api.Key{G: g, Level: 1, Role: 2} }

// plainPage is a shadow page as the chapters tell it; of holds the host's frame that each slot's word is of.
type plainPage struct {
	frame int
	key   api.Key
	slots [8]api.Slot
	of    [8]int
}

// plain is a filler, its guard, its store, its TLB and its host's words, as the chapters tell them; hosts are the guest's frames.
type plain struct {
	words [][8]uint64
	hosts []int
	pages []*plainPage
	free  []int // the one that is taken next is the last one
	most  int
	hits  []api.Hit
	loose []int
}

func (x *plain) page(f int) *plainPage {
	for _, y := range x.pages {
		if y.frame == f {
			return y
		}
	}
	return nil
}

func (x *plain) find(k api.Key) *plainPage {
	for _, y := range x.pages {
		if y.key == k {
			return y
		}
	}
	return nil
}

// tables are the pages of a table.
func (x *plain) tables(g int) []*plainPage {
	var l []*plainPage
	for _, y := range x.pages {
		if y.key.Role == 0 && y.key.G == g {
			l = append(l, y)
		}
	}
	return l
}

func (x *plain) isLoose(g int) bool { return slices.Index(x.loose, g) >= 0 }

func (x *plain) host(g int) int {
	if g >= 0 && g < len(x.hosts) {
		return x.hosts[g]
	}
	return 0
}

// sMake, sDrop, sChild, sLeaf and sClear are the store's own calls.
func (x *plain) sMake(k api.Key) (int, bool) {
	right := k.Role == 0 && k.Level >= 1 && k.Level <= 3 || k.Level == 1 && (k.Role == 1 || k.Role == 2)
	if !right || x.find(k) != nil || len(x.free) == 0 {
		return 0, false
	}
	f := x.free[len(x.free)-1]
	x.free = x.free[:len(x.free)-1]
	x.pages = append(x.pages, &plainPage{frame: f, key: k})
	return f, true
}

func (x *plain) sDrop(f int) bool {
	if x.page(f) == nil {
		return false
	}
	var rest []*plainPage
	for _, y := range x.pages {
		if y.frame == f {
			continue
		}
		for i, z := range y.slots {
			if z.Kind == api.Child && z.To == f {
				y.slots[i] = api.Slot{}
			}
		}
		rest = append(rest, y)
	}
	x.pages, x.words[f], x.free = rest, [8]uint64{}, append(x.free, f)
	return true
}

func (x *plain) sChild(f, i, c int, r api.Right) bool {
	y, z := x.page(f), x.page(c)
	if y == nil || z == nil || i < 0 || i > 7 || z.key.Level+1 != y.key.Level {
		return false
	}
	y.slots[i], y.of[i] = api.Slot{Kind: api.Child, To: c, Right: r}, c
	return true
}

func (x *plain) sLeaf(f, i, g, h int, r api.Right) bool {
	y := x.page(f)
	if y == nil || i < 0 || i > 7 || y.key.Level != 1 || h < 0 || h >= len(x.words) {
		return false
	}
	y.slots[i], y.of[i] = api.Slot{Kind: api.Leaf, To: g, Right: r}, h
	return true
}

func (x *plain) sClear(f, i int) bool {
	y := x.page(f)
	if y == nil || i < 0 || i > 7 || y.slots[i].Kind == api.Empty {
		return false
	}
	y.slots[i] = api.Slot{}
	return true
}

func (x *plain) put(h api.Hit) {
	x.hits = slices.DeleteFunc(x.hits, func(y api.Hit) bool { return y.Asid == h.Asid && y.Page == h.Page })
	x.hits = append(x.hits, h)
	if len(x.hits) > x.most {
		x.hits = x.hits[1:]
	}
}

// forbid has each leaf of a frame that may be written be one that may not.
func (x *plain) forbid(g int) {
	for _, y := range x.pages {
		for i, z := range y.slots {
			if z.Kind == api.Leaf && z.To == g && z.Right.W {
				y.slots[i].Right.W, y.of[i] = false, x.host(g)
				x.hits = nil
			}
		}
	}
}

// agreed: does a leaf agree with an entry's word?
func agreed(z api.Slot, v uint64) bool {
	for _, bit := range []uint64{p, a} {
		if v&bit == 0 {
			return false
		}
	}
	// Beside the frame, all that may be one are P, W, U, A, D and NX.
	if v&^(0xfffff000|p|w|u|a|d|nx) != 0 {
		return false
	}
	if int(v&0xfffff000>>12) != z.To || (v&u != 0) != z.Right.U || (v>>63 == 0) != z.Right.X {
		return false
	}
	return !z.Right.W || v&(w|d) == w|d
}

func (x *plain) look(g int) bool {
	if !x.isLoose(g) {
		return false
	}
	x.tighten(g)
	x.forbid(g)
	for _, y := range x.tables(g) {
		for i, z := range y.slots {
			v := uint64(0)
			if g >= 0 && g < len(x.hosts) {
				v = x.words[x.hosts[g]][i]
			}
			if z.Kind == api.Leaf && !agreed(z, v) {
				y.slots[i] = api.Slot{}
			}
		}
	}
	x.hits = nil
	return true
}

func (x *plain) tighten(g int) {
	var rest []int
	for _, f := range x.loose {
		if f != g {
			rest = append(rest, f)
		}
	}
	x.loose = rest
}

func (x *plain) make(k api.Key) (int, bool) {
	if y := x.find(k); y != nil {
		return y.frame, true
	}
	if k.Role == 0 {
		x.look(k.G)
	}
	f, is := x.sMake(k)
	if is && k.Role == 0 {
		x.forbid(k.G)
	}
	return f, is
}

func (x *plain) drop(f int) bool {
	y := x.page(f)
	if y == nil {
		return false
	}
	if y.key.Role == 0 {
		x.tighten(y.key.G)
	}
	x.hits = nil
	return x.sDrop(f)
}

// parents are the pages of all slots that tell one, as often as they do.
func (x *plain) parents(f int) []*plainPage {
	var l []*plainPage
	for _, y := range x.pages {
		for _, z := range y.slots {
			if z.Kind == api.Child && z.To == f {
				l = append(l, y)
			}
		}
	}
	return l
}

func (x *plain) loosen(g int) bool {
	l := x.tables(g)
	if x.isLoose(g) || len(l) != 1 || l[0].key.Level != 1 {
		return false
	}
	up := x.parents(l[0].frame)
	if len(up) != 1 || len(x.parents(up[0].frame)) != 1 {
		return false
	}
	x.loose = append(x.loose, g)
	return true
}

// next is the page that a slot is a Child to; nil: it is none.
func (x *plain) next(y *plainPage, i int) *plainPage {
	if y == nil || y.slots[i].Kind != api.Child {
		return nil
	}
	return x.page(y.slots[i].To)
}

// reach goes each page's way from the root, and tells those that pass the slot.
func (x *plain) reach(root, f, i int) []int {
	var l []int
	for n := range 512 {
		y := x.find(key(root, 3))
		for _, at := range []int{n / 64, n / 8 % 8, n % 8} {
			if y != nil && y.frame == f && at == i {
				l = append(l, n)
			}
			y = x.next(y, at)
		}
	}
	return l
}

// wordOf is the word of a slot, by the bits that the chapters tell.
func wordOf(z api.Slot, f int) uint64 {
	if z.Kind == api.Empty {
		return 0
	}
	v := of(f, p)
	if z.Right.W {
		v |= w
	}
	if z.Right.U {
		v |= u
	}
	if !z.Right.X {
		v |= nx
	}
	return v
}

// zap has a slot be empty, and nothing be known, if it was not.
func (x *plain) zap(f, i int) {
	if x.sClear(f, i) {
		x.hits = nil
	}
}

// take is the page of a key, and the first page that is not pinned goes for it, if need be; false: there is none.
func (x *plain) take(k api.Key, pinned []int) (int, bool) {
	if y := x.find(k); y != nil {
		return y.frame, true
	}
	for n := 0; len(x.free) == 0; n++ {
		if n == len(x.pages) {
			return 0, false
		}
		if f := x.pages[n].frame; slices.Index(pinned, f) < 0 {
			x.drop(f)
		}
	}
	return x.make(k)
}

// link has a slot be a Child to c: which pages are told anew.
func (x *plain) link(root, f, i, c int, r api.Right) []int {
	want := api.Slot{Kind: api.Child, To: c, Right: r}
	if x.page(f).slots[i] == want {
		return nil
	}
	y := x.page(c)
	if y.key.Level == 1 && y.key.Role == 0 {
		x.look(y.key.G)
	}
	for n := 0; n < 8 && y.key.Level == 2; n++ {
		if z := x.next(y, n); z != nil && z.key.Role == 0 {
			x.look(z.key.G)
		}
	}
	x.zap(f, i)
	x.sChild(f, i, c, r)
	return x.reach(root, f, i)
}

// leaf has a slot be a Leaf to g: which pages are told anew.
func (x *plain) leaf(root, f, i, g int, r api.Right) []int {
	want := api.Slot{Kind: api.Leaf, To: g, Right: r}
	if x.page(f).slots[i] == want {
		return nil
	}
	x.zap(f, i)
	x.sLeaf(f, i, g, x.host(g), r)
	return x.reach(root, f, i)
}

// rightOf is what a word permits.
func rightOf(v uint64) api.Right { return api.Right{W: v&w != 0, U: v&u != 0, X: v>>63 == 0} }

// fill lays a path of three words, or of two, if it is of a large page.
func (x *plain) fill(root, page int, path api.Path, written bool) ([]int, bool) {
	var v []uint64
	for _, at := range path.Ats {
		v = append(v, x.words[x.hosts[at.G]][at.I])
	}
	is := path.Dirty || written
	last, r := key(int(v[1]&0xfffff000>>12), 1), every
	if path.Large && is {
		last.Role = 2
	} else if path.Large {
		last.Role = 1
	} else {
		r = rightOf(v[2])
	}
	var l, pages []int
	for _, k := range []api.Key{key(root, 3), key(int(v[0]&0xfffff000>>12), 2), last} {
		f, is := x.take(k, pages)
		if !is {
			return nil, false
		}
		pages = append(pages, f)
	}
	n := (page%512 + 512) % 512
	l = append(l, x.link(root, pages[0], n/64, pages[1], rightOf(v[0]))...)
	l = append(l, x.link(root, pages[1], n/8%8, pages[2], rightOf(v[1]))...)
	if !is || len(x.tables(path.G)) > 0 && !x.isLoose(path.G) {
		r.W = false
	}
	return append(l, x.leaf(root, pages[2], n%8, path.G, r)...), true
}

// both are a filler with all that it is of, and a plain one.
type both struct {
	t *testing.T
	h *frame.Mem
	m *guest.Mem
	s *store.Store
	k *tlb.Tlb
	d *guard.Guard
	f *fill.Filler
	x *plain
}

// The host has frames from 0 on, shadow pages those from first on, and the guest many of those from image on, in another order.
const (
	hostMany  = 48
	first     = 4
	image     = 24
	guestMany = 16
)

// list tells the guest's frames.
func list() []int {
	var l []int
	for g := range guestMany {
		l = append(l, image+(g*5+3)%guestMany)
	}
	return l
}

// made are both, with so many frames for shadow pages, in a memory of which no word outside the guest's is 0.
func made(t *testing.T, pool int) both {
	t.Helper()
	b := both{t: t, h: frame.New(hostMany), k: tlb.New(8), x: &plain{hosts: list(), most: 8}}
	for f := range hostMany {
		b.x.words = append(b.x.words, [8]uint64{})
		for i := range 8 {
			if f < image || f >= image+guestMany {
				b.x.words[f][i] = uint64(f)<<40 | uint64(i)<<32 | 0xdead0001
			}
		}
		b.h.Fill(f, b.x.words[f][:])
	}
	for f := first + pool - 1; f >= first; f-- {
		b.x.free = append(b.x.free, f)
	}
	m := gmap.New(list(), hostMany)
	b.m, b.s = guest.New(b.h, m), store.New(b.h, first, pool)
	b.d = guard.New(b.m, m, b.s, b.k)
	b.f = fill.New(b.m, m, b.s, b.d)
	b.same()
	return b
}

// same tells where anything is not as it is to be.
func (b both) same() {
	b.t.Helper()
	b.pagesAre()
	b.wordsAre()
	if l := b.k.List(); !slices.Equal(l, b.x.hits) {
		b.t.Fatalf("known is %v, not %v", l, b.x.hits)
	}
	if l := b.d.List(); !slices.Equal(l, b.x.loose) {
		b.t.Fatalf("loose are %v, not %v", l, b.x.loose)
	}
}

// pagesAre tells where the store has others than the plain one's pages, or slots.
func (b both) pagesAre() {
	b.t.Helper()
	var want []int
	for _, y := range b.x.pages {
		want = append(want, y.frame)
		if k, _ := b.s.Key(y.frame); k != y.key {
			b.t.Fatalf("the page %d is of %v, not %v", y.frame, k, y.key)
		}
		for i, z := range y.slots {
			b.is(y.frame, i, z)
		}
	}
	if l := b.s.All(); !slices.Equal(l, want) {
		b.t.Fatalf("the pages are %v, not %v", l, want)
	}
	if b.s.Left() != len(b.x.free) {
		b.t.Fatalf("%d frames are left, not %d", b.s.Left(), len(b.x.free))
	}
}

// wordsAre tells where a word of the host's is not what it is to be.
func (b both) wordsAre() {
	b.t.Helper()
	for f, want := range b.x.words {
		if y := b.x.page(f); y != nil {
			for i, z := range y.slots {
				want[i] = wordOf(z, y.of[i])
			}
		}
		if [8]uint64(b.h.Frame(f)) != want {
			b.t.Fatalf("the frame %d is %x, not %x", f, b.h.Frame(f), want)
		}
	}
}

// is tells where a slot is another one.
func (b both) is(f, i int, want api.Slot) {
	b.t.Helper()
	if got, _ := b.s.Slot(f, i); got != want {
		b.t.Fatalf("the slot %d, %d is %v, not %v", f, i, got, want)
	}
}

// set has a word of the guest's be another one.
func (b both) set(g, i int, v uint64) {
	b.t.Helper()
	if !b.m.Set(g, i, v) {
		b.t.Fatalf("there is no word %d, %d", g, i)
	}
	b.x.words[b.x.hosts[g]][i] = v
}

// put has some pages be known.
func (b both) put() {
	for _, h := range []api.Hit{{Page: 1, Frame: 24}, {Asid: 1, Page: 1, Right: every}, {Asid: 7, Page: 511, Dirty: true}} {
		b.k.Put(h)
		b.x.put(h)
	}
}

// page, child, leaf and gone are done by somebody else, in the store itself.
func (b both) page(k api.Key) int {
	b.t.Helper()
	f, is := b.s.Make(k)
	if want, wantIs := b.x.sMake(k); f != want || is != wantIs {
		b.t.Fatalf("the store's Make of %v is %d, %t", k, f, is)
	}
	return f
}

func (b both) child(f, i, c int, r api.Right) {
	b.t.Helper()
	if b.s.Child(f, i, c, r) != b.x.sChild(f, i, c, r) {
		b.t.Fatalf("the store's Child(%d, %d, %d) is not as it is to be", f, i, c)
	}
}

func (b both) leaf(f, i, g int, r api.Right) {
	b.t.Helper()
	if b.s.Leaf(f, i, g, b.x.host(g), r) != b.x.sLeaf(f, i, g, b.x.host(g), r) {
		b.t.Fatalf("the store's Leaf(%d, %d, %d) is not as it is to be", f, i, g)
	}
}

func (b both) gone(f int) {
	b.t.Helper()
	if b.s.Drop(f) != b.x.sDrop(f) {
		b.t.Fatalf("the store's Drop(%d) is not as it is to be", f)
	}
}

// make, drop, zap, loosen and look are the guard's calls.
func (b both) make(k api.Key) int {
	b.t.Helper()
	f, is := b.d.Make(k)
	if want, wantIs := b.x.make(k); f != want || is != wantIs {
		b.t.Fatalf("the guard's Make of %v is %d, %t", k, f, is)
	}
	return f
}

func (b both) drop(f int) {
	b.t.Helper()
	if b.d.Drop(f) != b.x.drop(f) {
		b.t.Fatalf("the guard's Drop(%d) is not as it is to be", f)
	}
}

func (b both) zap(f, i int) {
	b.d.Zap(f, i)
	b.x.zap(f, i)
}

func (b both) loosen(g int) bool {
	b.t.Helper()
	is := b.d.Loosen(g)
	if is != b.x.loosen(g) {
		b.t.Fatalf("the guard's Loosen(%d) is %t", g, is)
	}
	return is
}

func (b both) look(g int) {
	b.t.Helper()
	if b.d.Look(g) != b.x.look(g) {
		b.t.Fatalf("the guard's Look(%d) is not as it is to be", g)
	}
}

// so tells, if it is not.
func so(t *testing.T, is bool, what string) {
	t.Helper()
	if !is {
		t.Fatal(what)
	}
}

// path is the page's, that a walk finds from a root on; false: it finds none.
func (b both) path(root, page int) (api.Path, bool) {
	x, how, _ := walk.Walk(b.m, root, page, api.Load, false)
	return x, how == api.Done
}

// found is what the host's machine finds of a page.
type found struct {
	frame int
	right api.Right
	is    bool
}

// finds is what the host's machine finds of a page, from the root's page on.
func (b both) finds(root, page int) found {
	var x found
	if top, is := b.s.Find(key(root, 3)); is {
		x.frame, x.right, x.is = mmu.New(b.h, b.k).Walk(top, page)
	}
	return x
}

// findsAll is the same of all pages.
func (b both) findsAll(root int) [512]found {
	var l [512]found
	for n := range l {
		l[n] = b.finds(root, n)
	}
	return l
}

// asFound tells where P17.2 is broken behind a Fill.
func (b both) asFound(root, page int, path api.Path, written bool) {
	b.t.Helper()
	want := found{b.x.hosts[path.G], path.Right, true}
	if b.d.Protected(path.G) || !path.Dirty && !written {
		want.right.W = false
	}
	if got := b.finds(root, page); got != want {
		b.t.Fatalf("the machine finds %v of the page %d, not %v", got, page, want)
	}
}

// anew tells where P17.6 is broken behind a Fill that told those.
func (b both) anew(root int, was [512]found, told []int) {
	b.t.Helper()
	for n, x := range b.findsAll(root) {
		if x.is && (!was[n].is || x.frame != was[n].frame || !right.Under(x.right, was[n].right)) && slices.Index(told, n) < 0 {
			b.t.Fatalf("the machine finds %v of the page %d, where it was %v, and that is not told", x, n, was[n])
		}
	}
}

// state is all that there is: the host's words, the guest's among them, what is known, what is loose, and the pages, their keys and slots.
type state struct {
	words []uint64
	hits  []api.Hit
	loose []int
	pages []int
	keys  []api.Key
	slots []api.Slot
}

func (b both) state() state {
	x := state{hits: b.k.List(), loose: b.d.List(), pages: b.s.All()}
	for f := range hostMany {
		x.words = append(x.words, b.h.Frame(f)...)
	}
	for _, f := range x.pages {
		k, _ := b.s.Key(f)
		x.keys = append(x.keys, k)
		for i := range 8 {
			z, _ := b.s.Slot(f, i)
			x.slots = append(x.slots, z)
		}
	}
	return x
}

func (x state) same(y state) bool {
	return slices.Equal(x.words, y.words) && slices.Equal(x.hits, y.hits) && slices.Equal(x.loose, y.loose) && slices.Equal(x.pages, y.pages) && slices.Equal(x.keys, y.keys) && slices.Equal(x.slots, y.slots)
}

// lay is a Fill of a path that a walk of the root and the page found: it is to be as the plain one's, to leave the same, and to keep what is promised of each.
func (b both) lay(root, page int, path api.Path, written bool) ([]int, bool) {
	b.t.Helper()
	was, words, ats := b.findsAll(root), b.m.All(), slices.Clone(path.Ats)
	l, is := b.f.Fill(root, page, path, written)
	so(b.t, slices.Equal(b.m.All(), words), "a word of the guest's is another one")
	so(b.t, slices.Equal(path.Ats, ats), "the path is another one")
	if is {
		b.asFound(root, page, path, written)
	} else {
		so(b.t, len(l) == 0 && len(b.x.free)+len(b.x.pages) < 3, "there is no room, or pages are told though there is none")
	}
	b.anew(root, was, l)
	if want, wantIs := b.x.fill(root, page, path, written); is != wantIs || !slices.Equal(l, want) {
		b.t.Fatalf("Fill of %d, %d is %v, %t, not %v, %t", root, page, l, is, want, wantIs)
	}
	b.same()
	return l, is
}

// fill is a Fill of a page that a walk finds: which pages are told anew.
func (b both) fill(root, page int, written bool) []int {
	b.t.Helper()
	path, is := b.path(root, page)
	so(b.t, is, "there is no path")
	l, is := b.lay(root, page, path, written)
	so(b.t, is, "there is no room")
	return l
}

// tells is a Fill that is to tell just those anew.
func (b both) tells(root, page int, written bool, want ...int) {
	b.t.Helper()
	if l := b.fill(root, page, written); !slices.Equal(l, want) {
		b.t.Fatalf("told of %d, %d are %v, not %v", root, page, l, want)
	}
}

// twice tells where P17.3 is broken behind a Fill.
func (b both) twice(root, page int, path api.Path, written bool) {
	b.t.Helper()
	was := b.state()
	l, is := b.f.Fill(root, page, path, written)
	so(b.t, is && len(l) == 0, "a second Fill tells pages anew, or has no room")
	so(b.t, b.state().same(was), "a second Fill changes something")
}

// forgets tells if anything is still known behind what is done, and keeps if anything is not.
func (b both) forgets(do func()) {
	b.t.Helper()
	b.put()
	do()
	so(b.t, b.k.Many() == 0, "the TLB still knows something")
}

func (b both) keeps(do func()) {
	b.t.Helper()
	b.put()
	was := b.k.List()
	do()
	so(b.t, len(was) >= 3 && slices.Equal(b.k.List(), was), "the TLB knows other hits")
}

// at is the page of those places, of the levels 3, 2 and 1.
func at(i, j, k int) int { return i*64 + j*8 + k }

// from are the numbers from one on, so many.
func from(n, many int) []int {
	var l []int
	for i := range many {
		l = append(l, n+i)
	}
	return l
}

// open are the bits of an entry that permits all, and was not used.
const open = p | w | u

// tabled are both, with so many frames for shadow pages, and tables of the guest's: the roots 1 and 6, the tables 2 and 5 of the level 2, 3, 4 and 7 of the level 1, and the large page of the frames from 8 on. Of the frames from 9 on none is a table.
func tabled(t *testing.T, pool int) both {
	t.Helper()
	b := made(t, pool)
	for _, x := range []struct {
		g, i int
		v    uint64
	}{
		{1, 0, of(2, open)}, {1, 5, of(2, open)}, {1, 1, of(5, open)},
		{6, 3, of(2, open)}, {6, 4, of(5, open)},
		{2, 0, of(3, open)}, {2, 3, of(3, open)}, {2, 2, of(4, open)}, {2, 1, of(8, open|ps)}, {2, 6, of(8, open|ps|d)}, {2, 7, of(7, open)},
		{5, 0, of(7, open)}, {5, 7, of(3, open)}, {5, 6, of(8, open|ps)}, {5, 2, of(8, open)},
		{3, 0, of(9, open|a)}, {3, 1, of(3, open)}, {3, 2, of(4, open)}, {3, 3, of(10, open|d)}, {3, 5, of(7, open)}, {3, 6, of(9, open)}, {3, 7, of(11, open|a)},
		{4, 0, of(9, open)}, {4, 1, of(3, open)}, {4, 2, of(15, open)}, {4, 6, of(12, open)}, {4, 7, of(4, open)},
		{7, 0, of(13, open)}, {7, 6, of(0, open)},
		{8, 0, of(14, open|a)},
	} {
		b.set(x.g, x.i, x.v)
	}
	return b
}

// has is the page of a key, that is to be there.
func (b both) has(k api.Key) int {
	b.t.Helper()
	f, is := b.s.Find(k)
	so(b.t, is, "there is no page of the key")
	return f
}

// keysAre tells where the store has pages of other keys, or in another order.
func (b both) keysAre(want ...api.Key) {
	b.t.Helper()
	if l := b.state().keys; !slices.Equal(l, want) {
		b.t.Fatalf("the pages are of %v, not %v", l, want)
	}
}

// P17.1: Q1, a new one changes nothing; nothing is kept from one Fill to the next but by what it is of: any of several goes on where another one ended.
func TestNew(t *testing.T) {
	b := tabled(t, 12)
	b.put()
	var fillers []*fill.Filler
	for range 3 {
		fillers = append(fillers, fill.New(b.m, b.m.Map, b.s, b.d))
		b.same()
	}
	for n, page := range []int{at(5, 3, 6), at(5, 3, 6), at(5, 3, 0), at(5, 1, 0), at(1, 0, 6), at(5, 2, 7), at(0, 1, 0)} {
		b.f = fillers[n%3]
		b.fill(1, page, n%2 == 0)
	}
}

// P17.1: Q2, of no page of the store: all three are made, in order, and all that the slots are passed for is told anew, in order.
func TestFillWithNoPages(t *testing.T) {
	b := tabled(t, 12)
	l := b.fill(1, at(5, 3, 6), false)
	so(t, slices.Equal(l, append(append(from(320, 64), from(344, 8)...), 350)), "others are told")
	b.keysAre(key(1, 3), key(2, 2), key(3, 1))
	so(t, slices.Equal(b.s.All(), []int{4, 5, 6}), "the pages have other frames")
	for i := range 8 {
		want := [3]api.Slot{}
		if i == 5 {
			want[0] = api.Slot{Kind: api.Child, To: 5, Right: every}
		}
		if i == 3 {
			want[1] = api.Slot{Kind: api.Child, To: 6, Right: every}
		}
		if i == 6 {
			want[2] = api.Slot{Kind: api.Leaf, To: 9, Right: read}
		}
		for n, x := range want {
			b.is(4+n, i, x)
		}
	}
	so(t, b.finds(1, 350) == found{b.x.hosts[9], read, true}, "the machine finds something else")
}

// P17.1: Q2, of each of the three pages that is there already, or is not; what is there is taken, the others are made behind it.
func TestFillWithSomePages(t *testing.T) {
	keys := []api.Key{key(1, 3), key(2, 2), key(3, 1)}
	for mask := range 8 {
		b := tabled(t, 12)
		var want, rest []api.Key
		for n, k := range keys {
			if mask>>n&1 == 1 {
				so(t, b.make(k) == first+len(want), "it is another page")
				want = append(want, k)
			} else {
				rest = append(rest, k)
			}
		}
		l := b.fill(1, at(5, 3, 6), true)
		so(t, len(l) == 73 && b.s.Left() == 9, "others are told, or there are others")
		b.keysAre(append(want, rest...)...)
	}
}

// large has the table 2 tell a large page of the frames from 8 on, of those bits.
func (b both) large(i int, bits uint64) {
	b.t.Helper()
	b.set(2, i, of(8, bits|p|ps))
}

// P17.1, P17.2: Q2, each right of each of the three entries, written to and not: the slots tell those of their own entries, and the leaf W only if the path is dirty.
func TestRightsOfEntries(t *testing.T) {
	bits := func(n int) uint64 { return p | uint64(n&3)<<1 | uint64(n>>2)<<63 }
	for run := range 8 * 8 * 8 {
		for kind := range 4 {
			b := tabled(t, 3)
			b.set(1, 5, of(2, bits(run&7)))
			b.set(2, 3, of(3, bits(run>>3&7)))
			b.set(3, 6, of(9, bits(run>>6)|d*uint64(kind&1)))
			b.fill(1, at(5, 3, 6), kind > 1)
			last := rightOf(bits(run >> 6))
			last.W = last.W && kind > 0
			b.is(4, 5, api.Slot{Kind: api.Child, To: 5, Right: rightOf(bits(run & 7))})
			b.is(5, 3, api.Slot{Kind: api.Child, To: 6, Right: rightOf(bits(run >> 3 & 7))})
			b.is(6, 6, api.Slot{Kind: api.Leaf, To: 9, Right: last})
		}
	}
}

// P17.1, P17.2: Q2, each right of both entries of a large page, written to and not: the leaf has U and X, whatever its entry permits, and W only if the path is dirty.
func TestRightsOfLargePages(t *testing.T) {
	bits := func(n int) uint64 { return p | uint64(n&3)<<1 | uint64(n>>2)<<63 }
	for run := range 8 * 8 {
		for kind := range 4 {
			b := tabled(t, 3)
			b.set(1, 5, of(2, bits(run&7)))
			b.large(1, bits(run>>3)|d*uint64(kind&1))
			b.fill(1, at(5, 1, 6), kind > 1)
			b.is(4, 5, api.Slot{Kind: api.Child, To: 5, Right: rightOf(bits(run & 7))})
			b.is(5, 1, api.Slot{Kind: api.Child, To: 6, Right: rightOf(bits(run >> 3))})
			b.is(6, 6, api.Slot{Kind: api.Leaf, To: 14, Right: api.Right{W: kind > 0, U: true, X: true}})
		}
	}
}

// P17.1, P17.2: Q2, a path that is dirty by itself, by being written, by both, and by neither.
func TestDirty(t *testing.T) {
	for kind := range 4 {
		is := kind > 0
		b := tabled(t, 12)
		b.set(3, 6, of(9, open|d*uint64(kind&1)))
		b.fill(1, at(5, 3, 6), kind > 1)
		so(t, b.finds(1, at(5, 3, 6)).right == api.Right{W: is, U: true, X: true}, "the page may be written, and is not dirty, or the other way")
		b.large(1, open|d*uint64(kind&1))
		b.fill(1, at(5, 1, 2), kind > 1)
		so(t, b.finds(1, at(5, 1, 2)).right == api.Right{W: is, U: true, X: true}, "the large page may be written, and is not dirty, or the other way")
		want := clean(8)
		if is {
			want = dirty(8)
		}
		b.keysAre(key(1, 3), key(2, 2), key(3, 1), want)
	}
}

// P17.1: Q2, D of the last entry alone has a path be dirty: that of the entries above it, and A of any, do not.
func TestDirtyByTheLastEntryAlone(t *testing.T) {
	b := tabled(t, 12)
	b.set(1, 5, of(2, all))
	b.set(2, 3, of(3, all))
	b.set(3, 6, of(9, open|a))
	b.fill(1, at(5, 3, 6), false)
	so(t, b.finds(1, at(5, 3, 6)).right == read, "the page may be written")
	b.large(1, open|a)
	b.fill(1, at(5, 1, 6), false)
	so(t, b.finds(1, at(5, 1, 6)).right == read, "the large page may be written")
	b.has(clean(8))
}

// P17.1, P17.2: Q2, the path is dirty if it was when it was found, or is written, whatever its entry says since.
func TestDirtyAsFound(t *testing.T) {
	b := tabled(t, 12)
	was, _ := b.path(1, at(5, 3, 6))
	b.set(3, 6, of(9, open|d))
	now, _ := b.path(1, at(5, 3, 6))
	l, _ := b.lay(1, at(5, 3, 6), was, false)
	so(t, len(l) == 73 && b.finds(1, at(5, 3, 6)).right == read, "it may be written")
	b.set(3, 6, of(9, open))
	l, _ = b.lay(1, at(5, 3, 6), now, false)
	so(t, slices.Equal(l, []int{350}) && b.finds(1, at(5, 3, 6)).right == every, "it may not be written")
}

// P17.1, P17.6: Q2, a large page as one that is not dirty, then as one that is, then as the first one again: the slot tells the one page, then the other; both are there still.
func TestLargeAsTheOther(t *testing.T) {
	for _, by := range []bool{false, true} {
		b := tabled(t, 12)
		page, eight := at(5, 1, 3), from(at(5, 1, 0), 8)
		bits := func(is bool) {
			if !by && is {
				b.large(1, open|d)
			} else {
				b.large(1, open)
			}
		}
		b.tells(1, page, false, append(append(from(320, 64), eight...), page)...)
		bits(true)
		b.tells(1, page, by, append(slices.Clone(eight), page)...)
		so(t, b.finds(1, page) == found{b.x.hosts[11], every, true}, "it may not be written")
		so(t, !b.finds(1, page+1).is, "another page is found")
		bits(false)
		b.tells(1, page, false, eight...)
		so(t, b.finds(1, page) == found{b.x.hosts[11], read, true}, "it may be written")
		bits(true)
		b.tells(1, page, by, eight...)
		b.keysAre(key(1, 3), key(2, 2), clean(8), dirty(8))
	}
}

// P17.1: Q2, one large page that two entries tell, one with D and one without: each has its own page; two that are alike have one.
func TestLargeByTwoEntries(t *testing.T) {
	b := tabled(t, 12)
	b.fill(1, at(0, 1, 2), false)
	b.fill(1, at(0, 6, 2), false)
	b.keysAre(key(1, 3), key(2, 2), clean(8), dirty(8))
	so(t, !b.finds(1, at(0, 1, 2)).right.W && b.finds(1, at(0, 6, 2)).right.W, "they are alike")
	b.tells(1, at(1, 6, 2), false, append(from(64, 64), from(at(1, 6, 0), 8)...)...)
	b.tells(1, at(1, 6, 3), false, at(0, 1, 3), at(1, 6, 3))
	b.tells(1, at(0, 1, 5), true, append(from(at(0, 1, 0), 8), at(0, 1, 5), at(0, 6, 5))...)
	so(t, b.s.Left() == 7, "there are other pages")
}

// P17.1, P17.2: Q2, a frame of which there is a page, of each key: it is protected if that is of a table, of any level, and its leaf has no W then.
func TestLeafToATable(t *testing.T) {
	for _, c := range []struct {
		key api.Key
		w   bool
	}{{key(9, 1), false}, {key(9, 2), false}, {key(9, 3), false}, {clean(9), true}, {dirty(9), true}, {key(10, 1), true}, {key(b9, 3), true}} {
		for _, page := range []int{at(5, 3, 6), at(5, 1, 1)} {
			b := tabled(t, 12)
			f := b.make(c.key)
			b.fill(1, page, true)
			so(t, b.finds(1, page) == found{b.x.hosts[9], api.Right{W: c.w, U: true, X: true}, true}, "it is protected, and may be written, or the other way")
			b.drop(f)
			b.fill(1, page, true)
			so(t, b.finds(1, page).right == every, "it may not be written, and is no table")
		}
	}
}

// b9 is the host's frame of the guest's frame 9.
const b9 = image + (9*5+3)%guestMany

// P17.1, P17.2: Q2, the page's own tables are protected: by this very Fill, too.
func TestLeafToItsOwnTables(t *testing.T) {
	for _, g := range []int{1, 2, 3} {
		b := tabled(t, 12)
		b.set(3, 6, of(g, open|d))
		b.fill(1, at(5, 3, 6), true)
		so(t, b.finds(1, at(5, 3, 6)) == found{b.x.hosts[g], read, true}, "a table may be written")
	}
	b := tabled(t, 12)
	b.set(6, 0, of(6, open|d))
	b.set(6, 1, of(0, open|d|ps))
	b.fill(6, at(0, 1, 6), true)
	b.keysAre(key(6, 3), key(6, 2), dirty(0))
	so(t, b.finds(6, at(0, 1, 6)) == found{b.x.hosts[6], read, true}, "the root may be written")
}

// P17.1, P17.2: Q2, a leaf to a frame that is loose has W, if it is dirty; one to the same behind a Look has not.
func TestLeafToALooseTable(t *testing.T) {
	for _, g := range []int{3, 4, 7} {
		b := tabled(t, 12)
		way := map[int]int{3: at(5, 3, 0), 4: at(5, 2, 0), 7: at(5, 7, 0)}[g]
		b.fill(1, way, false)
		b.fill(1, at(5, 3, 6), false)
		so(t, b.loosen(g), "it is not loosened")
		page := map[int]int{3: at(5, 3, 1), 4: at(5, 3, 2), 7: at(5, 3, 5)}[g]
		b.tells(1, page, false, page)
		so(t, b.finds(1, page).right == read && b.d.Loose(g), "it may be written, or is not loose")
		b.tells(1, page, true, page)
		so(t, b.finds(1, page).right == every && b.d.Loose(g), "it may not be written, or is not loose")
		b.look(g)
		so(t, !b.finds(1, page).right.W, "it may be written still")
		if b.fill(1, page, true); b.finds(1, page).right != read {
			t.Fatal("a protected table may be written")
		}
	}
}

// P17.1, P17.2: Q2, the same of a large page's frame.
func TestLargeLeafToALooseTable(t *testing.T) {
	b := tabled(t, 12)
	b.fill(1, at(1, 2, 0), false)
	so(t, b.loosen(8), "it is not loosened")
	b.fill(1, at(5, 6, 0), false)
	so(t, b.finds(1, at(5, 6, 0)) == found{b.x.hosts[8], every, true} && b.d.Loose(8), "it may not be written, or is not loose")
	b.fill(1, at(5, 1, 0), false)
	so(t, b.finds(1, at(5, 1, 0)) == found{b.x.hosts[8], read, true} && b.d.Loose(8), "it may be written, or is not loose")
	b.look(8)
	b.tells(1, at(5, 6, 0), true)
	so(t, b.finds(1, at(5, 6, 0)).right == read && b.d.Protected(8), "a protected table may be written")
}

// P17.1, P17.3, P17.6: Q2, the leaf's slot is just what it is to be, is empty, or is a Leaf to another frame, or to the same one with other rights: it is told anew, and what is known is known no more, unless it was just that, or empty.
func TestLeafSlots(t *testing.T) {
	for _, page := range []int{at(5, 3, 6), at(5, 1, 1)} {
		for n := range 8 * 4 {
			b := tabled(t, 12)
			b.fill(1, page, true)
			low := b.s.All()[2]
			g, r := []int{9, 10, 3, 0}[n>>3], rights[n&7]
			b.leaf(low, page%8, g, r)
			if g == 9 && r == every {
				b.keeps(func() { b.tells(1, page, true) })
				continue
			}
			b.forgets(func() { b.tells(1, page, true, page) })
			b.is(low, page%8, api.Slot{Kind: api.Leaf, To: 9, Right: every})
		}
		b := tabled(t, 12)
		b.fill(1, page, true)
		b.zap(b.s.All()[2], page%8)
		b.keeps(func() { b.tells(1, page, true, page) })
		b.keeps(func() { b.tells(1, page, true) })
	}
}

// P17.1, P17.3, P17.6: Q2, the root's slot, and that of the next page, is just what it is to be, is empty, or is a Child to another page, or to the same one with other rights: the same.
func TestChildSlots(t *testing.T) {
	for level, told := range map[int][]int{3: from(320, 64), 2: from(344, 8)} {
		for n := range 8 * 2 {
			b := tabled(t, 12)
			b.fill(1, 350, true)
			f, i, c := b.has(key(1, 3)), 5, b.has(key(2, 2))
			if level == 2 {
				f, i, c = c, 3, b.has(key(3, 1))
			}
			to, r := c, rights[n&7]
			if n >= 8 {
				to = b.make(key(13, level-1))
			}
			b.child(f, i, to, r)
			if to == c && r == every {
				b.keeps(func() { b.tells(1, 350, true) })
				continue
			}
			b.forgets(func() { b.tells(1, 350, true, told...) })
			b.is(f, i, api.Slot{Kind: api.Child, To: c, Right: every})
		}
		b := tabled(t, 12)
		b.fill(1, 350, true)
		if level == 3 {
			b.zap(b.has(key(1, 3)), 5)
		} else {
			b.zap(b.has(key(2, 2)), 3)
		}
		b.keeps(func() { b.tells(1, 350, true, told...) })
	}
}

// P17.1: Q2, no slot but the page's own is changed, though it is one that a Fill of another page would lay.
func TestOtherSlotsStand(t *testing.T) {
	b := tabled(t, 12)
	for _, page := range []int{at(5, 3, 6), at(0, 0, 0), at(1, 7, 7), at(5, 1, 1), at(5, 2, 1)} {
		b.fill(1, page, true)
	}
	for f := range b.x.pages {
		for i := range 8 {
			if x, _ := b.s.Slot(first+f, i); x.Kind == api.Leaf {
				x.Right.W = !x.Right.W
				b.leaf(first+f, i, 15, x.Right)
			}
		}
	}
	b.tells(1, at(5, 3, 6), true, at(0, 0, 6), at(0, 3, 6), at(1, 7, 6), at(5, 0, 6), at(5, 3, 6))
}

// loosed is what was tabled, and the tables 3 and 4 loose, in that order, or the other one, each with one way to it, by the slot 5 of the root 1.
func loosed(t *testing.T, order ...int) both {
	t.Helper()
	b := tabled(t, 12)
	b.fill(1, at(5, 3, 0), false)
	b.fill(1, at(5, 2, 0), false)
	for _, g := range order {
		so(t, b.loosen(g), "it is not loosened")
	}
	return b
}

// P17.1: Q2, a link into a page of the level 1, whose table is loose: it is looked through; the leaves that agree with their entries stay, the others are gone, and nothing is known any more.
func TestLinkIntoALooseTable(t *testing.T) {
	b := loosed(t, 3, 4)
	b.fill(1, at(5, 3, 6), false)
	b.fill(1, at(5, 3, 7), false)
	b.set(3, 6, of(10, open|a))
	b.forgets(func() { b.tells(1, at(5, 0, 0), false, from(at(5, 0, 0), 8)...) })
	so(t, slices.Equal(b.d.List(), []int{4}), "others are loose")
	low := b.has(key(3, 1))
	b.is(low, 6, api.Slot{})
	b.is(low, 7, api.Slot{Kind: api.Leaf, To: 11, Right: read})
	so(t, b.finds(1, at(5, 0, 7)).is && b.finds(1, at(5, 3, 7)).is, "it is not found both ways")
}

// P17.1, P17.6: Q2, a leaf that goes by that very look is laid, and told anew by all ways.
func TestLinkIntoALooseTableAndALeaf(t *testing.T) {
	b := loosed(t, 3)
	b.fill(1, at(5, 3, 6), false)
	b.set(3, 6, of(10, open))
	b.tells(1, at(5, 0, 6), false, append(from(at(5, 0, 0), 8), at(5, 0, 6), at(5, 3, 6))...)
	so(t, b.finds(1, at(5, 3, 6)).frame == b.x.hosts[10], "another frame is found")
}

// P17.1, P17.2: Q2, what is protected is asked behind the links: a frame that these have be looked through has no leaf with W.
func TestLinkIntoALooseTableThatTheLeafTells(t *testing.T) {
	b := loosed(t, 3)
	b.tells(1, at(5, 3, 1), true, at(5, 3, 1))
	so(t, b.finds(1, at(5, 3, 1)).right == every, "it may not be written")
	b.fill(1, at(5, 0, 1), true)
	so(t, b.d.Protected(3) && b.finds(1, at(5, 3, 1)).right == read && b.finds(1, at(5, 0, 1)).right == read, "a protected table may be written")
}

// P17.1: Q2, a slot that is a Child to just that page, with just those rights, is no link: what is loose is so still; with other rights it is one.
func TestLinkThatIsThere(t *testing.T) {
	b := loosed(t, 4, 3)
	b.keeps(func() { b.tells(1, at(5, 3, 7), false, at(5, 3, 7)) })
	so(t, slices.Equal(b.d.List(), []int{4, 3}), "others are loose")
	b.set(2, 3, of(3, p|u))
	b.forgets(func() { b.tells(1, at(5, 3, 7), false, from(344, 8)...) })
	so(t, slices.Equal(b.d.List(), []int{4}), "others are loose now")
	so(t, b.loosen(3), "it is not loosened")
	b.set(1, 5, of(2, p|w))
	b.forgets(func() { b.tells(1, at(5, 3, 7), false, from(320, 64)...) })
	so(t, len(b.d.List()) == 0, "some are loose still")
}

// P17.1: Q2, a link into a page of the level 2: all tables that its slots tell are looked through, whichever of them are loose; others are not.
func TestLinkIntoTheLevelTwo(t *testing.T) {
	for _, order := range [][]int{{}, {3}, {4}, {3, 4}, {4, 3}} {
		b := loosed(t, order...)
		b.fill(1, at(1, 0, 6), false)
		so(t, b.loosen(7), "it is not loosened")
		low, next := b.has(key(3, 1)), b.has(key(4, 1))
		b.set(4, 0, 0)
		do := func() { b.tells(1, at(0, 3, 0), false, from(0, 64)...) }
		if len(order) == 0 {
			b.keeps(do)
		} else {
			b.forgets(do)
		}
		so(t, slices.Equal(b.d.List(), []int{7}), "others are loose")
		b.is(low, 0, api.Slot{Kind: api.Leaf, To: 9, Right: read})
		x, _ := b.s.Slot(next, 0)
		so(t, (x.Kind == api.Empty) == (slices.Index(order, 4) >= 0), "the other table is looked through, or is not")
	}
}

// P17.1: Q2, the same at each of the eight slots, each of which alone tells the loose table, with any rights.
func TestLinkIntoTheLevelTwoAtEachSlot(t *testing.T) {
	for j := range 8 {
		b := tabled(t, 12)
		for i := range 8 {
			b.set(2, i, of(4, p))
		}
		b.set(2, j, of(3, p|uint64(j&3)<<1|uint64(j>>2)<<63))
		b.fill(1, at(5, j, 7), false)
		so(t, b.loosen(3), "it is not loosened")
		b.set(3, 7, of(11, open))
		b.forgets(func() {
			b.tells(1, at(0, (j+1)%8, 6), false, append(append(from(0, 64), toldBoth((j+1)%8)...), at(0, (j+1)%8, 6), at(5, (j+1)%8, 6))...)
		})
		so(t, b.d.Protected(3) && !b.finds(1, at(5, j, 7)).is, "it is not looked through")
	}
}

// toldBoth are the pages of a slot of the table 2, by the root 1's slots 0 and 5.
func toldBoth(j int) []int { return append(from(at(0, j, 0), 8), from(at(5, j, 0), 8)...) }

// P17.1: Q2, the tables are looked through in the order of the slots, not in that in which they were loosened: a leaf that the first look forbids may agree at the second one; one that is held against its entry ahead of that is gone.
func TestLinkIntoTheLevelTwoInOrder(t *testing.T) {
	for _, order := range [][]int{{3, 4}, {4, 3}} {
		b := loosed(t, order...)
		b.set(3, 2, of(4, open|a))
		b.set(4, 1, of(3, open|a))
		b.fill(1, at(5, 3, 2), true)
		b.fill(1, at(5, 2, 1), true)
		so(t, len(b.d.List()) == 2, "not both are loose")
		b.fill(1, at(0, 3, 5), false)
		so(t, len(b.d.List()) == 0, "one is loose still")
		b.is(b.has(key(3, 1)), 2, api.Slot{Kind: api.Leaf, To: 4, Right: read})
		b.is(b.has(key(4, 1)), 1, api.Slot{})
	}
}

// P17.1: Q2, a link into a page with another Role, or into one whose slots tell such pages: a loose table of their G is loose still.
func TestLinkIntoAnotherRole(t *testing.T) {
	for _, c := range []struct{ page, other int }{{at(5, 1, 1), at(0, 1, 1)}, {at(5, 6, 1), at(0, 6, 1)}} {
		b := tabled(t, 12)
		b.fill(1, at(1, 2, 0), false)
		so(t, b.loosen(8), "it is not loosened")
		b.keeps(func() { b.fill(1, c.page, false) })
		so(t, b.d.Loose(8), "it is loose no more by the first way")
		b.keeps(func() { b.fill(1, c.other, false) })
		so(t, b.d.Loose(8), "it is loose no more by the second way")
		b.tells(6, at(4, 2, 0), false, from(256, 64)...)
		so(t, !b.d.Loose(8), "it is loose, with a way from another root")
	}
}

// P17.1: Q2, a link looks through no table by the number of the page of the level 2 itself, nor by that of the page that the slot told ahead of it.
func TestLinkLooksThroughNoOther(t *testing.T) {
	b := loosed(t, 3, 4)
	b.set(2, 3, of(4, open))
	b.fill(1, at(5, 3, 6), false)
	so(t, slices.Equal(b.d.List(), []int{3}), "others are loose")
	b.set(1, 5, of(5, open))
	b.fill(1, at(5, 0, 0), false)
	so(t, slices.Equal(b.d.List(), []int{3}), "others are loose now")
	// The store was told of this page by somebody else: the guard would look through it.
	f := b.page(key(3, 2))
	b.set(1, 3, of(3, open))
	b.set(3, 4, of(13, open))
	b.set(13, 0, of(9, open))
	b.fill(1, at(3, 4, 0), false)
	so(t, slices.Equal(b.d.List(), []int{3}) && b.has(key(3, 2)) == f, "others are loose behind it")
}

// P17.1: Q2, a page that is made is a table, too: a loose one is looked through, and leaves to it have W no more.
func TestMadePagesAreKept(t *testing.T) {
	b := loosed(t, 3)
	b.fill(1, at(5, 2, 1), true)
	b.fill(1, at(5, 2, 6), true)
	so(t, b.finds(1, at(5, 2, 1)).right == every && b.finds(1, at(5, 2, 6)).right == every, "they may not be written")
	b.set(1, 3, of(3, open))
	b.set(3, 4, of(12, open))
	b.set(12, 0, of(9, open))
	b.forgets(func() { b.fill(1, at(3, 4, 0), false) })
	so(t, b.d.Protected(3) && b.d.Protected(12), "they are not protected")
	so(t, b.finds(1, at(5, 2, 1)).right == read && b.finds(1, at(5, 2, 6)).right == read, "they may be written")
}

// P17.1, P17.6: Q2, what is told anew, in order, where each of the root's slot, the next one, and the leaf, is new, or not.
func TestTold(t *testing.T) {
	parts := [][]int{from(320, 64), from(344, 8), {350}}
	for mask := range 8 {
		b := tabled(t, 12)
		b.fill(1, 350, false)
		var want []int
		for n, k := range []api.Key{key(1, 3), key(2, 2), key(3, 1)} {
			if mask>>n&1 == 1 {
				b.zap(b.has(k), []int{5, 3, 6}[n])
				want = append(want, parts[n]...)
			}
		}
		b.tells(1, 350, false, want...)
		b.tells(1, 350, false)
	}
}

// P17.1, P17.6: Q2, a page and a table that several ways lead to: each slot tells all that it is passed for.
func TestToldByTwoWays(t *testing.T) {
	b := tabled(t, 12)
	b.fill(1, at(5, 3, 0), false)
	b.tells(1, at(0, 3, 0), false, from(0, 64)...)
	b.tells(1, at(5, 0, 0), false, append(from(at(0, 0, 0), 8), from(at(5, 0, 0), 8)...)...)
	b.tells(1, at(0, 3, 6), false, at(0, 0, 6), at(0, 3, 6), at(5, 0, 6), at(5, 3, 6))
	b.tells(1, at(1, 7, 6), false, append(from(64, 64), from(at(1, 7, 0), 8)...)...)
	b.tells(1, at(5, 3, 6), true, at(0, 0, 6), at(0, 3, 6), at(1, 7, 6), at(5, 0, 6), at(5, 3, 6))
}

// P17.1, P17.6: Q2, two roots of the same tables: each is told its own pages alone.
func TestToldOfTwoRoots(t *testing.T) {
	b := tabled(t, 12)
	b.fill(1, at(5, 3, 6), false)
	b.tells(6, at(3, 3, 6), false, from(192, 64)...)
	b.tells(6, at(3, 0, 6), false, from(at(3, 0, 0), 8)...)
	b.tells(1, at(5, 0, 3), false, at(5, 0, 3), at(5, 3, 3))
	b.tells(6, at(3, 0, 3), false)
	b.tells(6, at(3, 0, 7), false, at(3, 0, 7), at(3, 3, 7))
	b.tells(1, at(5, 0, 7), false)
	b.drop(b.has(key(1, 3)))
	b.tells(1, at(5, 0, 7), false, from(320, 64)...)
}

// P17.1: Q2, a root that is its own table of the level 2 and 1: it has a page of each, and three ways lead into it.
func TestRootInItself(t *testing.T) {
	b := tabled(t, 12)
	b.set(0, 4, of(0, open))
	b.set(0, 2, of(9, open))
	b.set(9, 4, of(10, open))
	b.tells(0, at(4, 4, 4), true, append(append(from(256, 64), from(at(4, 4, 0), 8)...), at(4, 4, 4))...)
	b.keysAre(key(0, 3), key(0, 2), key(0, 1))
	so(t, b.finds(0, at(4, 4, 4)) == found{b.x.hosts[0], read, true}, "the root may be written, or another frame is found")
	b.tells(0, at(4, 4, 2), true, at(4, 4, 2))
	so(t, b.finds(0, at(4, 4, 2)).right == every, "it may not be written")
	b.tells(0, at(4, 2, 4), true, append(from(at(4, 2, 0), 8), at(4, 2, 4))...)
	so(t, b.finds(0, at(4, 4, 2)).right == read, "a table may be written")
	b.keysAre(key(0, 3), key(0, 2), key(0, 1), key(9, 1))
}

// P17.3: a second Fill of the same changes nothing, and tells nothing anew: of a page, of a large one, dirty or not, of protected frames and loose ones, and of tables in themselves, with three frames for pages and with more.
func TestTwice(t *testing.T) {
	for _, pool := range []int{3, 4, 12} {
		for kind := range 2 {
			b := tabled(t, pool)
			b.set(0, 4, of(0, open))
			b.set(1, 2, of(1, open))
			for _, x := range [][2]int{{1, at(5, 3, 6)}, {1, at(5, 1, 6)}, {1, at(0, 6, 1)}, {1, at(5, 3, 1)}, {1, at(5, 3, 2)}, {1, at(1, 7, 1)}, {6, at(3, 0, 0)}, {6, at(3, 3, 3)}, {0, at(4, 4, 4)}, {1, at(2, 2, 2)}, {1, at(2, 5, 3)}, {1, at(5, 2, 7)}, {1, at(5, 2, 6)}} {
				path, _ := b.path(x[0], x[1])
				b.lay(x[0], x[1], path, kind == 1)
				b.put()
				b.twice(x[0], x[1], path, kind == 1)
				b.loosen(4)
				b.loosen(3)
				b.lay(x[0], x[1], path, kind == 1)
				b.put()
				b.twice(x[0], x[1], path, kind == 1)
				b.look(4)
			}
		}
	}
}

// P17.1, P17.2, P17.6: Q2, a second Fill behind any of the words of the tables has changed, to any of several, and back.
func TestBehindAChangedWord(t *testing.T) {
	bits := []uint64{p, p | w, p | u, open, p | nx, open | nx, open | a, all, open | d}
	for _, c := range []struct {
		g, i int
		to   []int
	}{{1, 5, []int{2, 5, 1}}, {2, 3, []int{3, 4, 7, 2}}, {3, 6, []int{9, 10, 3, 2, 1, 0}}} {
		for run := range len(bits) * len(c.to) * 4 {
			b := tabled(t, 4)
			was, _ := b.m.Get(c.g, c.i)
			b.fill(1, 350, run&1 == 1)
			b.set(c.g, c.i, of(c.to[run>>2%len(c.to)], bits[run>>2/len(c.to)]))
			if path, is := b.path(1, 350); is {
				b.lay(1, 350, path, run&2 == 2)
				b.twice(1, 350, path, run&2 == 2)
			}
			b.set(c.g, c.i, was)
			b.fill(1, 350, run&2 == 2)
		}
	}
}

// P17.1: Q2, pages beyond 0 to 511, far below and far above: what is told is that of the same page of these.
func TestPagesBeyond(t *testing.T) {
	for _, n := range append([]int{350 - 512, 350 + 512, 350 - 512*3, 350 + 512*1000, 350 - 1<<40, 350 + 1<<62, math.MinInt + 350}, odd...) {
		b := tabled(t, 12)
		if (n%512+512)%512 == 350 {
			b.tells(1, n, true, append(append(from(320, 64), from(344, 8)...), 350)...)
			b.tells(1, 350, true)
			continue
		}
		b.set(1, 7, of(5, open))
		b.set(1, 4, of(5, open))
		if path, is := b.path(1, n); is {
			b.lay(1, n, path, false)
			b.twice(1, n, path, false)
			b.twice(1, (n%512+512)%512, path, false)
		}
	}
}

// others are keys of pages that no Fill here asks for.
var others = []api.Key{key(20, 1), key(21, 2), dirty(22), key(23, 3)}

// filled is a tabled guest's, with so many frames for pages, of which these are made.
func filled(t *testing.T, pool int, keys ...api.Key) both {
	t.Helper()
	b := tabled(t, pool)
	for _, k := range keys {
		b.page(k)
	}
	return b
}

// P17.1: Q2, to take a page with no frame free: the first of all that is not pinned goes, and its frame is the new one's; what this Fill took, made or found, is pinned.
func TestTakenInOrder(t *testing.T) {
	x, y, z, v := others[0], others[1], others[2], others[3]
	r, m, l := key(1, 3), key(2, 2), key(3, 1)
	for _, c := range []struct {
		was, want []api.Key
		frames    []int
	}{
		{[]api.Key{x, y, z}, []api.Key{r, m, l}, []int{4, 5, 6}},
		{[]api.Key{x, y, z, v}, []api.Key{v, r, m, l}, []int{7, 4, 5, 6}},
		{[]api.Key{x, r, y}, []api.Key{r, m, l}, []int{5, 4, 6}},
		{[]api.Key{r, x, y}, []api.Key{r, m, l}, []int{4, 5, 6}},
		{[]api.Key{r, m, x}, []api.Key{r, m, l}, []int{4, 5, 6}},
		{[]api.Key{m, r, x, y}, []api.Key{m, r, y, l}, []int{4, 5, 7, 6}},
		{[]api.Key{l, m, r}, []api.Key{l, m, r}, []int{4, 5, 6}},
		// What is to be taken later is not pinned yet.
		{[]api.Key{l, x, y}, []api.Key{r, m, l}, []int{4, 5, 6}},
		{[]api.Key{m, l, x}, []api.Key{r, m, l}, []int{4, 5, 6}},
		{[]api.Key{r, l, x, y}, []api.Key{r, y, m, l}, []int{4, 7, 5, 6}},
		{[]api.Key{x, l, m, y}, []api.Key{l, m, y, r}, []int{5, 6, 7, 4}},
		// A page of another Role, level or G is another one.
		{[]api.Key{clean(3), key(1, 2), key(2, 3)}, []api.Key{r, m, l}, []int{4, 5, 6}},
	} {
		b := filled(t, len(c.was), c.was...)
		l := b.fill(1, at(5, 3, 6), true)
		b.keysAre(c.want...)
		so(t, len(l) == 73 && slices.Equal(b.s.All(), c.frames), "the frames are others")
	}
}

// P17.1: Q2, with room no page goes: up to the last frame that is free.
func TestTakenWithRoom(t *testing.T) {
	for free := range 4 {
		b := filled(t, 4+free, others...)
		b.fill(1, at(5, 3, 6), false)
		want := slices.Concat(others[3-free:], []api.Key{key(1, 3), key(2, 2), key(3, 1)})
		b.keysAre(want...)
		b.fill(1, at(5, 3, 7), true)
		b.keysAre(want...)
	}
}

// P17.1, P17.4: Q2, every row of pages that there are, in every order, with two frames for them, three and four: held against a plain one.
func TestTakenFromEveryRow(t *testing.T) {
	keys := append([]api.Key{key(1, 3), key(2, 2), key(3, 1)}, others[1:]...)
	var from func(row []api.Key, pool int)
	from = func(row []api.Key, pool int) {
		b := filled(t, pool, row...)
		path, _ := b.path(1, at(5, 3, 6))
		_, is := b.lay(1, at(5, 3, 6), path, true)
		so(t, is == (pool > 2), "there is no room, or there is")
		for _, k := range keys {
			if len(row) < pool && slices.Index(row, k) < 0 {
				from(append(slices.Clone(row), k), pool)
			}
		}
	}
	for pool := 2; pool <= 4; pool++ {
		from(nil, pool)
	}
}

// P17.1: Q2, what is pinned is so till the Fill ends: the next one has those pages go for others.
func TestPinsEnd(t *testing.T) {
	b := tabled(t, 3)
	b.fill(1, at(5, 3, 6), false)
	b.fill(6, at(4, 7, 6), false)
	b.keysAre(key(3, 1), key(6, 3), key(5, 2))
	b.fill(1, at(5, 2, 6), false)
	b.keysAre(key(1, 3), key(2, 2), key(4, 1))
	b.fill(1, at(5, 3, 6), false)
	b.keysAre(key(1, 3), key(2, 2), key(3, 1))
	so(t, slices.Equal(b.s.All(), []int{6, 4, 5}), "the pages have other frames")
}

// P17.1: Q2, a page that is given back is so by the guard: nothing is known any more, a loose table is loose no more, and not looked through, and what told the page is empty.
func TestGivenBackByTheGuard(t *testing.T) {
	b := tabled(t, 4)
	b.fill(1, at(5, 3, 6), false)
	b.fill(1, at(5, 2, 6), false)
	so(t, b.loosen(3) && b.loosen(4), "they are not loosened")
	b.forgets(func() { b.tells(1, at(5, 7, 6), false, append(from(at(5, 7, 0), 8), at(5, 7, 6))...) })
	so(t, slices.Equal(b.d.List(), []int{4}), "others are loose")
	so(t, !b.finds(1, at(5, 3, 6)).is, "it is found still")
	b.keysAre(key(1, 3), key(2, 2), key(4, 1), key(7, 1))
	b.is(b.has(key(2, 2)), 3, api.Slot{})
}

// P17.1: Q2, what is there is taken though no frame is free: nothing goes for it, and nothing is forgotten.
func TestTakenWhatIsThere(t *testing.T) {
	b := tabled(t, 3)
	b.fill(1, at(5, 3, 6), false)
	b.keeps(func() { b.tells(1, at(5, 3, 7), false, at(5, 3, 7)) })
	b.keeps(func() { b.tells(1, at(5, 3, 0), true, at(5, 3, 0)) })
	b.keysAre(key(1, 3), key(2, 2), key(3, 1))
}

// refused tells where a Fill has room, or leaves pages of other keys.
func (b both) refused(root, page int, want ...api.Key) {
	b.t.Helper()
	path, _ := b.path(root, page)
	l, is := b.lay(root, page, path, true)
	so(b.t, !is && len(l) == 0, "there is room")
	b.keysAre(want...)
	so(b.t, !b.finds(root, page).is, "the page is found")
}

// P17.1, P2: Q2, with two frames for pages, one, or none: none, and false; what was taken ahead of that stands, and no slot is laid.
func TestNoRoom(t *testing.T) {
	for _, page := range []int{at(5, 3, 6), at(5, 1, 6), at(5, 6, 6)} {
		b := tabled(t, 2)
		b.keeps(func() { b.refused(1, page, key(1, 3), key(2, 2)) })
		b.keeps(func() { b.refused(1, page, key(1, 3), key(2, 2)) })
		for i := range 8 {
			b.is(4, i, api.Slot{})
			b.is(5, i, api.Slot{})
		}
		b = tabled(t, 1)
		b.keeps(func() { b.refused(1, page, key(1, 3)) })
		b.keeps(func() { b.refused(1, page, key(1, 3)) })
		b.forgets(func() { b.refused(6, at(3, 3, 0), key(6, 3)) })
		b = tabled(t, 0)
		b.keeps(func() { b.refused(1, page) })
	}
}

// P17.1: Q2, a Fill that ends with none: the pages that it gave back are gone, those that it took are there, as they were; a slot between two of these stands.
func TestWhatStandsWithNoRoom(t *testing.T) {
	b := filled(t, 2, others[0], others[1])
	b.forgets(func() { b.refused(1, 350, key(1, 3), key(2, 2)) })
	b = filled(t, 2, key(3, 1), key(2, 2))
	b.child(5, 3, 4, every)
	b.refused(1, 350, key(2, 2), key(1, 3))
	b.is(5, 3, api.Slot{})
	b = filled(t, 2, key(1, 3), key(2, 2))
	b.child(4, 5, 5, read)
	b.keeps(func() { b.refused(1, 350, key(1, 3), key(2, 2)) })
	b.is(4, 5, api.Slot{Kind: api.Child, To: 5, Right: read})
	b = filled(t, 1, key(3, 1))
	b.leaf(4, 6, 9, every)
	b.forgets(func() { b.refused(1, 350, key(1, 3)) })
	b = filled(t, 1, key(1, 3))
	b.keeps(func() { b.refused(1, 350, key(1, 3)) })
}

// P17.4: with three frames for pages there is room for each, whatever pages there were ahead of it.
func TestRoom(t *testing.T) {
	x := numbers(4)
	for run := range 30 {
		b := filled(t, 3, others[run%2:run%4]...)
		for range 60 {
			root := []int{1, 6}[x.next(2)]
			page := x.next(512)
			if path, is := b.path(root, page); is {
				_, room := b.lay(root, page, path, x.next(2) == 0)
				so(t, room, "there is no room")
			}
		}
	}
}

// P17.5: no word of the guest's memory is changed, in whatever order its frames and those for pages are; nor is one of a frame that is neither's.
func TestNoWordOfTheGuestsIsChanged(t *testing.T) {
	h, m := frame.New(20), gmap.New([]int{19, 3, 2, 9, 0, 10, 1}, 20)
	for f := range 20 {
		h.Fill(f, []uint64{1, 2, 3, 4, 5, 6, 7, uint64(f)})
	}
	g, s := guest.New(h, m), store.New(h, 4, 4)
	z := fill.New(g, m, s, guard.New(g, m, s, tlb.New(4)))
	x := numbers(5)
	for range 2000 {
		g.Set(x.next(7), x.next(8), of(x.next(7), open|uint64(x.next(2))*d|uint64(x.next(2))*a))
		words, rest := g.All(), [][]uint64{h.Frame(8), h.Frame(11), h.Frame(18)}
		root, page := x.next(7), x.next(512)
		path, how, _ := walk.Walk(g, root, page, api.Load, false)
		if how != api.Done {
			continue
		}
		_, is := z.Fill(root, page, path, x.next(2) == 0)
		so(t, is && slices.Equal(g.All(), words), "a word of the guest's is another one")
		for n, f := range []int{8, 11, 18} {
			so(t, slices.Equal(h.Frame(f), rest[n]), "a word of another frame is another one")
		}
	}
}

// P3: what comes out is new memory, its spare room too; the path is not kept.
func TestListsAreNewMemory(t *testing.T) {
	b := tabled(t, 12)
	path, _ := b.path(1, 350)
	l, _ := b.lay(1, 350, path, false)
	kept := slices.Clone(l)
	clear(path.Ats)
	b.fill(1, at(0, 0, 6), true)
	so(t, slices.Equal(l, kept), "a list is changed by what comes behind it")
	for range 3 {
		clear(l[:cap(l)])
		b.same()
		b.zap(b.has(key(1, 3)), 5)
		l = b.fill(1, 350, true)
		so(t, slices.Equal(l, from(320, 64)), "others are told")
	}
}

// P3: spare room of what is handed in is not changed, nor does it alter anything.
func TestThePathIsNotChanged(t *testing.T) {
	b := tabled(t, 12)
	for _, page := range []int{350, at(5, 1, 6)} {
		path, _ := b.path(1, page)
		room := append(slices.Clone(path.Ats), api.At{G: 5, I: 6}, api.At{G: 3, I: 3})
		path.Ats = room[:len(path.Ats)]
		was := slices.Clone(room)
		b.lay(1, page, path, true)
		so(t, slices.Equal(room, was), "the path, or what is behind it, is another one")
	}
}

// P3: fillers of unlike stores are apart.
func TestFillersAreApart(t *testing.T) {
	b, o := tabled(t, 12), tabled(t, 5)
	o.fill(1, 350, true)
	o.put()
	b.fill(1, at(0, 1, 3), true)
	b.fill(6, at(3, 0, 1), false)
	o.same()
	o.fill(6, at(3, 0, 1), false)
	b.same()
}

// P3: the memory, the map, the store and the guard are those that were handed in: entries go by the memory, leaves by the map.
func TestItIsOfWhatWasHandedIn(t *testing.T) {
	h, far := frame.New(40), frame.New(20)
	m, l := gmap.New([]int{30, 31, 32, 33}, 40), gmap.New([]int{3, 2, 1, 9}, 20)
	g, s := guest.New(far, l), store.New(h, 4, 8)
	d := guard.New(g, m, s, tlb.New(4))
	z := fill.New(g, m, s, d)
	far.Set(3, 1, of(1, open))
	far.Set(2, 2, of(2, open))
	far.Set(1, 3, of(3, open))
	path, how, _ := walk.Walk(g, 0, at(1, 2, 3), api.Load, false)
	told, is := z.Fill(0, at(1, 2, 3), path, true)
	so(t, how == api.Done && is && len(told) == 73, "it is not laid")
	f, r, is := mmu.New(h, tlb.New(1)).Walk(4, at(1, 2, 3))
	so(t, is && f == 33 && r == every, "the machine finds something else")
	so(t, d.Protected(2) && d.Loosen(2), "the guard knows nothing of it")
}

// numbers are pseudo-random, the same each time.
type numbers uint64

func (x *numbers) next(n int) int {
	*x = *x*6364136223846793005 + 1442695040888963407
	return int(uint64(*x) >> 33 % uint64(n))
}

// entry is a word that tells a frame, and mostly permits all.
func (x *numbers) entry(g int) uint64 {
	v := of(g, open|a)
	for _, c := range []struct {
		bit uint64
		one int
	}{{p, 24}, {w, 5}, {u, 5}, {nx, 5}, {a, 4}, {d, 3}, {1 << 9, 40}} {
		if x.next(c.one) == 0 {
			v ^= c.bit
		}
	}
	return v
}

// edit has any word of a table be another one: the frames 0 and 1 are roots, 2 and 3 tables of the level 2, 4 to 7 of the level 1, each of them mostly of those of the next level; wild has any of them tell any.
func (b both) edit(x *numbers, wild bool) {
	b.t.Helper()
	g, i := x.next(8), x.next(8)
	to := []int{2 + x.next(2), 4 + x.next(4), x.next(12)}[min(g/2, 2)]
	if wild {
		to = x.next(9)
	}
	v := x.entry(to)
	if g/2 == 1 && x.next(4) == 0 {
		v = x.entry(x.next(2)*8) | ps
	}
	b.set(g, i, v)
}

// anyPage is the frame of a page that there is, mostly.
func (b both) anyPage(x *numbers) int {
	if n := len(b.x.pages); n > 0 && x.next(12) > 0 {
		return b.x.pages[x.next(n)].frame
	}
	return x.next(hostMany+2) - 1
}

// meddle has the store, or the guard, do something beside, as the numbers say.
func (b both) meddle(x *numbers) {
	b.t.Helper()
	f, i, r := b.anyPage(x), x.next(8), rights[x.next(8)]
	switch x.next(8) {
	case 0:
		b.child(f, i, b.anyPage(x), r)
	case 1, 2:
		b.leaf(f, i, x.next(guestMany), r)
	case 3:
		b.gone(f)
	case 4:
		b.page(api.Key{G: x.next(9), Level: x.next(4), Role: x.next(2) * x.next(3)})
	case 5:
		b.make(key(x.next(9), 1+x.next(3)))
	case 6:
		b.drop(f)
	default:
		b.zap(f, i)
	}
}

// step is a Fill, mostly, or something between, as the numbers say; was it one?
func (b both) step(x *numbers, wild, meddle bool) bool {
	b.t.Helper()
	switch x.next(16) {
	case 0, 1, 2:
		b.edit(x, wild)
	case 3, 4, 5:
		b.loosen(x.next(9))
	case 6:
		b.look(x.next(9))
	case 7:
		b.put()
	case 8:
		if meddle {
			b.meddle(x)
		}
	default:
		root, page, written := x.next(2), x.next(512), x.next(2) == 0
		if wild {
			root = x.next(9)
		}
		path, is := b.path(root, page)
		if !is {
			return false
		}
		if x.next(4) == 0 {
			b.put()
		}
		_, is = b.lay(root, page, path, written)
		if is && x.next(4) == 0 {
			b.twice(root, page, path, written)
		}
		return is
	}
	return false
}

// run are so many steps, with so many frames for pages; which is how many Fills had room, and in how many were some told, and loose ahead of them.
func run(t *testing.T, x *numbers, pool, many int, wild, meddle bool) (int, int) {
	t.Helper()
	b := made(t, pool)
	for range 60 {
		b.edit(x, wild)
	}
	fills, loose := 0, 0
	for range many {
		was := len(b.d.List())
		if b.step(x, wild, meddle) {
			fills++
			if was > len(b.d.List()) {
				loose++
			}
		}
		b.same()
	}
	return fills, loose
}

// P17.1 to P17.6: long runs of Fills, of orderly tables and of wild ones, with edits of these, and loose tables, between; held against a plain one, and against the promises, at each step.
func TestLongRuns(t *testing.T) {
	x := numbers(17)
	for _, wild := range []bool{false, true} {
		fills, loose := 0, 0
		for _, pool := range []int{1, 2, 3, 4, 6, 9, 20} {
			n, m := run(t, &x, pool, 900, wild, false)
			fills, loose = fills+n, loose+m
		}
		so(t, fills > 600 && loose > 5, "there were few Fills, or few looks by these")
	}
}

// P17.1 to P17.6: the same, with pages and slots that others laid, and gave back, between.
func TestLongRunsWithOthers(t *testing.T) {
	x := numbers(18)
	for _, wild := range []bool{false, true} {
		for _, pool := range []int{3, 5, 9, 20} {
			fills, _ := run(t, &x, pool, 700, wild, true)
			so(t, fills > 50, "there were few Fills")
		}
	}
}

// P17.1 to P17.6: all short runs of few calls.
func TestAllShortRuns(t *testing.T) {
	var b both
	calls := []func(){
		func() { b.fill(1, at(5, 3, 6), false) },
		func() { b.fill(1, at(5, 3, 6), true) },
		func() { b.fill(1, at(0, 3, 1), true) },
		func() { b.fill(1, at(5, 0, 1), true) },
		func() { b.fill(1, at(5, 2, 1), true) },
		func() { b.fill(1, at(5, 1, 3), false) },
		func() { b.fill(1, at(1, 6, 3), true) },
		func() { b.fill(6, at(3, 3, 2), true) },
		func() { b.loosen(3) },
		func() { b.loosen(4) },
		func() { b.look(3) },
		func() { b.set(3, 6, of(10, all)) },
		func() { b.set(2, 3, of(4, open)) },
		func() { b.set(1, 5, of(2, p|u)) },
	}
	for run := range len(calls) * len(calls) * len(calls) {
		b = tabled(t, 3+run%3)
		for n, rest := 0, run; n < 3; n, rest = n+1, rest/len(calls) {
			calls[rest%len(calls)]()
		}
		b.fill(1, at(5, 3, 6), false)
	}
}

// P3: fillers to which the same is done tell the same.
func TestTheSameIsTold(t *testing.T) {
	x, y := numbers(19), numbers(19)
	one, two := made(t, 7), made(t, 7)
	for range 60 {
		one.edit(&x, false)
		two.edit(&y, false)
	}
	for range 400 {
		one.step(&x, false, true)
		two.step(&y, false, true)
		so(t, one.state().same(two.state()), "they are not the same")
	}
}

// wrong are paths that a walk of another page found, or none at all.
func (b both) wrong() []api.Path {
	var l []api.Path
	for _, n := range []int{at(5, 3, 6), at(5, 1, 3), at(0, 6, 7), at(1, 7, 1)} {
		x, _ := b.path(1, n)
		l = append(l, x)
		for _, many := range []int{0, 1, 2, 3} {
			y := x
			y.Ats = slices.Clone(x.Ats[:min(many, len(x.Ats))])
			l = append(l, y)
		}
		y := x
		y.Ats, y.Large, y.Dirty = append(slices.Clone(x.Ats), x.Ats...), !x.Large, !x.Dirty
		l = append(l, y)
	}
	l = append(l, api.Path{})
	for _, n := range odd {
		l = append(l, api.Path{G: n, Dirty: true, Large: n&1 == 1, Ats: []api.At{{G: n, I: 1}, {G: 2, I: n}, {G: n, I: n}, {G: n}}})
	}
	return l
}

// P1: every call ends and none panics, at all arguments: of roots that the guest has not, pages far below 0 and far above any bound, and paths that a walk of another page found, or none; behind these a Fill is what is promised.
func TestNothingPanics(t *testing.T) {
	for _, pool := range []int{0, 1, 2, 3, 8} {
		b := tabled(t, pool)
		paths := b.wrong()
		words := b.m.All()
		for _, root := range odd {
			for n, page := range odd {
				for m := range 5 {
					b.f.Fill(root, page, paths[(n*5+m)%len(paths)], m&1 == 1)
				}
			}
		}
		so(t, slices.Equal(b.m.All(), words), "a word of the guest's is another one")
		if pool >= 3 {
			path, _ := b.path(1, 350)
			_, is := b.f.Fill(1, 350, path, true)
			so(t, is, "there is no room")
			b.asFound(1, 350, path, true)
			b.twice(1, 350, path, true)
		}
	}
}

// P1: nor does any with a map of frames that the host has not, nor with a memory of fewer frames than the map.
func TestNothingPanicsWithoutFrames(t *testing.T) {
	h, m := frame.New(8), gmap.New([]int{7, 6, 5, 41}, 64)
	for _, g := range []*guest.Mem{guest.New(h, m), guest.New(frame.New(1), m), guest.New(h, gmap.New([]int{7, 6, 5}, 8))} {
		g.Set(0, 0, of(1, open))
		g.Set(1, 0, of(2, open))
		g.Set(2, 0, of(3, open))
		g.Set(2, 1, of(1, open))
		s := store.New(h, 0, 4)
		z := fill.New(g, m, s, guard.New(g, m, s, tlb.New(1)))
		for _, n := range odd {
			path, _, _ := walk.Walk(g, 0, n, api.Load, false)
			z.Fill(0, n, path, true)
			z.Fill(n, 0, path, false)
		}
	}
}
