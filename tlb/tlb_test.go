package tlb_test

import (
	"math"
	"slices"
	"testing"

	"silhouette/api"
	"silhouette/tlb"
)

// odd are numbers about every edge.
var odd = []int{math.MinInt, math.MinInt + 1, math.MinInt32, -1 << 32, -513, -512, -9, -8, -3, -2, -1, 0, 1, 2, 3, 4, 7, 8, 9, 63, 64, 65, 255, 256, 511, 512, 513, math.MaxInt32, 1 << 32, 1<<32 + 1, 1 << 62, math.MaxInt - 1, math.MaxInt}

// both are what a bool may be.
var both = []bool{false, true}

// sizes are numbers of hits that a TLB may have.
var sizes = []int{1, 2, 3, 4, 5, 8, 63, 64, 65, 511, 512}

// pair is an Asid and a Page.
type pair struct{ asid, page int }

func pairOf(h api.Hit) pair { return pair{h.Asid, h.Page} }

// plain is a TLB as the chapter tells it: what was put last of each pair and not dropped since, and at which call that was.
type plain struct {
	most int
	hits map[pair]api.Hit
	when map[pair]int
	call int
}

func newPlain(most int) *plain {
	return &plain{most: most, hits: map[pair]api.Hit{}, when: map[pair]int{}}
}

func (p *plain) list() []api.Hit {
	var l []api.Hit
	for _, h := range p.hits {
		l = append(l, h)
	}
	slices.SortFunc(l, func(a, b api.Hit) int { return p.when[pairOf(a)] - p.when[pairOf(b)] })
	return l
}

func (p *plain) drop(k pair) bool {
	_, is := p.hits[k]
	delete(p.hits, k)
	delete(p.when, k)
	return is
}

func (p *plain) put(h api.Hit) {
	k := pairOf(h)
	if _, is := p.hits[k]; !is && len(p.hits) == p.most {
		p.drop(pairOf(p.list()[0]))
	}
	p.call++
	p.hits[k], p.when[k] = h, p.call
}

func (p *plain) flush(asid int) {
	for _, h := range p.list() {
		if h.Asid == asid {
			p.drop(pairOf(h))
		}
	}
}

func (p *plain) all() { p.hits, p.when = map[pair]api.Hit{}, map[pair]int{} }

// modulo is n modulo many, from 0 on.
func modulo(n, many int) int {
	if n < 0 {
		return many - 1 - (-(n + 1))%many
	}
	return n % many
}

func (p *plain) pick(n int) bool {
	l := p.list()
	return len(l) > 0 && p.drop(pairOf(l[modulo(n, len(l))]))
}

// made is a TLB that may be.
func made(t *testing.T, most int) *tlb.Tlb {
	t.Helper()
	x := tlb.New(most)
	if x == nil {
		t.Fatalf("New(%d) is nil", most)
	}
	return x
}

// with is a TLB that may be, of which these are put.
func with(t *testing.T, most int, l ...api.Hit) *tlb.Tlb {
	t.Helper()
	x := made(t, most)
	for _, h := range l {
		x.Put(h)
	}
	return x
}

// gets tells if Get of a pair is not that hit.
func gets(t *testing.T, x *tlb.Tlb, want api.Hit) {
	t.Helper()
	if h, is := x.Get(want.Asid, want.Page); h != want || !is {
		t.Fatalf("Get(%d, %d) is %v, %t, not %v", want.Asid, want.Page, h, is, want)
	}
}

// getsNone tells if there is a hit of a pair, or Get of it is not zero.
func getsNone(t *testing.T, x *tlb.Tlb, asid, page int) {
	t.Helper()
	if h, is := x.Get(asid, page); h != (api.Hit{}) || is {
		t.Fatalf("Get(%d, %d) of none is %v, %t", asid, page, h, is)
	}
}

// knows tells where a TLB knows others than these, in order; of the pairs about each of them, too.
func knows(t *testing.T, x *tlb.Tlb, want ...api.Hit) {
	t.Helper()
	if l := x.List(); !slices.Equal(l, want) {
		t.Fatalf("List is %v, not %v", l, want)
	}
	if x.Many() != len(want) {
		t.Fatalf("Many is %d, not %d", x.Many(), len(want))
	}
	there := map[pair]bool{}
	for _, h := range want {
		there[pairOf(h)] = true
		gets(t, x, h)
	}
	for _, h := range slices.Concat(want, []api.Hit{{}}) {
		for _, k := range []pair{{h.Asid + 1, h.Page}, {h.Asid - 1, h.Page}, {h.Asid, h.Page + 1}, {h.Asid, h.Page - 1}, {h.Page, h.Asid}, {h.Asid, h.Asid}, {h.Page, h.Page}, {h.Asid, h.Frame}, {h.Asid + 1, h.Page - 1}, {h.Asid, -h.Page}} {
			if !there[k] {
				getsNone(t, x, k.asid, k.page)
			}
		}
	}
}

// drops tells if Drop of a pair does not answer so.
func drops(t *testing.T, x *tlb.Tlb, asid, page int, want bool) {
	t.Helper()
	if is := x.Drop(asid, page); is != want {
		t.Fatalf("Drop(%d, %d) is %t", asid, page, is)
	}
}

// picks tells if Pick does not answer so.
func picks(t *testing.T, x *tlb.Tlb, n int, want bool) {
	t.Helper()
	if is := x.Pick(n); is != want {
		t.Fatalf("Pick(%d) is %t", n, is)
	}
}

// hit is one of a pair, that says something else for each n.
func hit(asid, page, n int) api.Hit {
	return api.Hit{Asid: asid, Page: page, Frame: 1000 + n, Right: api.Right{W: n&1 != 0, U: n&2 != 0, X: n&4 != 0}, Dirty: n&8 != 0}
}

// several are as many hits, of three Asids, no two of one pair.
func several(many int) []api.Hit {
	var l []api.Hit
	for n := range many {
		l = append(l, hit(n%3, n/2, n))
	}
	return l
}

// without is l without its i-th, and those others behind it.
func without(l []api.Hit, i int, more ...api.Hit) []api.Hit {
	return append(slices.Delete(slices.Clone(l), i, i+1), more...)
}

// places are the first, some in the middle, and the last of so many.
func places(many int) []int {
	if many <= 8 {
		l := []int{}
		for i := range many {
			l = append(l, i)
		}
		return l
	}
	return []int{0, 1, many / 2, many - 2, many - 1}
}

// P9.1, P2: I1, New of 1 to 512 is an empty one, of which nothing is known, dropped or picked.
func TestNewIsEmpty(t *testing.T) {
	for most := 1; most <= 512; most++ {
		x := made(t, most)
		knows(t, x)
		for _, a := range odd {
			getsNone(t, x, a, 0)
			getsNone(t, x, 0, a)
			drops(t, x, a, 0, false)
			drops(t, x, 0, a, false)
			picks(t, x, a, false)
			x.Flush(a)
		}
		x.All()
		knows(t, x)
	}
}

// P9.1: I1, New is nil just if most is not 1 to 512.
func TestNewThatMayNotBeIsNil(t *testing.T) {
	for most := -600; most <= 1200; most++ {
		if is := tlb.New(most) != nil; is != (most >= 1 && most <= 512) {
			t.Errorf("New(%d) is there: %t", most, is)
		}
	}
	for _, most := range append(odd, 1024, 1<<32+512, -1<<32+1, math.MinInt+512) {
		if is := tlb.New(most) != nil; is != (most >= 1 && most <= 512) {
			t.Errorf("New(%d) is there: %t", most, is)
		}
	}
}

// P9.1: the chapter's example, MOST 1: two are put, the second one is there.
func TestMostOneTwoArePut(t *testing.T) {
	a, b := hit(1, 5, 3), hit(1, 6, 4)
	knows(t, with(t, 1, a, b), b)
	knows(t, with(t, 1, b, a), a)
	knows(t, with(t, 1, a, b, a, b), b)
}

// P9.1, P9.3: I2, Put where there are MOST: the first one goes, and no other; where there are fewer, none goes.
func TestPutWhereThereAreMost(t *testing.T) {
	for most := 1; most <= 512; most++ {
		l := several(most + 3)
		x := made(t, most)
		for _, h := range l[:most] {
			x.Put(h)
		}
		if !slices.Equal(x.List(), l[:most]) || x.Many() != most {
			t.Fatalf("MOST %d: behind as many Puts, List is %v", most, x.List())
		}
		for n, h := range l[most:] {
			x.Put(h)
			if want := l[n+1 : n+1+most]; !slices.Equal(x.List(), want) || x.Many() != most {
				t.Fatalf("MOST %d: behind %d more, List is %v, not %v", most, n+1, x.List(), want)
			}
			getsNone(t, x, l[n].Asid, l[n].Page)
		}
	}
}

// P9.1, P9.2, P9.3: I2, Put of a pair that is there: what was put last counts, and is the last one; none other goes.
func TestPutOfAPairThatIsThere(t *testing.T) {
	for _, most := range sizes {
		for _, many := range []int{1, most/2 + 1, most - 1, most} {
			if many < 1 {
				continue
			}
			l := several(many)
			for _, i := range places(many) {
				for _, again := range []api.Hit{l[i], hit(l[i].Asid, l[i].Page, i+1), hit(l[i].Asid, l[i].Page, i+8), {Asid: l[i].Asid, Page: l[i].Page}} {
					x := with(t, most, l...)
					x.Put(again)
					knows(t, x, without(l, i, again)...)
				}
			}
		}
	}
}

// P9.1, P9.3: a pair that was put once more does not go first: the one that is first now does.
func TestPutOnceMoreBringsItBehind(t *testing.T) {
	a, b, c, d, e := hit(0, 1, 1), hit(1, 1, 2), hit(0, 2, 3), hit(2, 9, 4), hit(3, 9, 5)
	x := with(t, 3, a, b, c, a, d)
	knows(t, x, c, a, d)
	x.Put(c)
	knows(t, x, a, d, c)
	x.Put(e)
	knows(t, x, d, c, e)
	x.Put(e)
	knows(t, x, d, c, e)
	x.Put(b)
	knows(t, x, c, e, b)
}

// P9.1, P9.2: hits that differ in their Asid alone, or in their Page alone, of any size, are of different pairs.
func TestPairsOfAnySize(t *testing.T) {
	few := []int{math.MinInt, -1 << 32, -512, -2, -1, 0, 1, 2, 8, 255, 256, 511, 512, 513, math.MaxInt32, 1 << 32, 1<<32 + 1, math.MaxInt - 1, math.MaxInt}
	var l []api.Hit
	for _, a := range few {
		for _, p := range few {
			l = append(l, hit(a, p, len(l)))
		}
	}
	x := with(t, 512, l...)
	knows(t, x, l...)
	for _, a := range few {
		for _, p := range few {
			i := slices.IndexFunc(l, func(h api.Hit) bool { return h.Asid == a && h.Page == p })
			h := hit(a, p, i+5)
			x.Put(h)
			l = without(l, i, h)
			gets(t, x, h)
		}
	}
	knows(t, x, l...)
	for _, a := range few {
		drops(t, x, a, 3, false)
		drops(t, x, 3, a, false)
		for _, p := range few {
			drops(t, x, a, p, true)
			getsNone(t, x, a, p)
			drops(t, x, a, p, false)
		}
	}
	knows(t, x)
}

// P9.1: all that a hit says is kept, of every frame and right, Dirty or not.
func TestAllThatAHitSays(t *testing.T) {
	for _, f := range odd {
		for _, w := range both {
			for _, u := range both {
				for _, e := range both {
					for _, d := range both {
						h := api.Hit{Asid: 3, Page: 7, Frame: f, Right: api.Right{W: w, U: u, X: e}, Dirty: d}
						x := with(t, 2, hit(3, 7, 1), hit(3, 8, 1), h)
						knows(t, x, hit(3, 8, 1), h)
					}
				}
			}
		}
	}
}

// P9.1: a hit that is all zero may be known, too: it is there, and counts.
func TestAZeroHitIsKnown(t *testing.T) {
	x := made(t, 2)
	getsNone(t, x, 0, 0)
	x.Put(api.Hit{})
	knows(t, x, api.Hit{})
	x.Put(hit(0, 1, 1))
	knows(t, x, api.Hit{}, hit(0, 1, 1))
	drops(t, x, 0, 0, true)
	getsNone(t, x, 0, 0)
	drops(t, x, 0, 0, false)
	knows(t, x, hit(0, 1, 1))
}

// P9.1, P9.2: I2, Drop of the first, of one in the middle, of the last: it alone is there no more.
func TestDrop(t *testing.T) {
	for _, most := range sizes {
		l := several(most)
		for _, i := range places(most) {
			x := with(t, most, l...)
			drops(t, x, l[i].Asid, l[i].Page, true)
			knows(t, x, without(l, i)...)
			drops(t, x, l[i].Asid, l[i].Page, false)
			knows(t, x, without(l, i)...)
			x.Put(l[i])
			knows(t, x, without(l, i, l[i])...)
		}
	}
}

// P9.1: I2, Drop of a pair that is not there is false and changes nothing, though there is one of its Asid, and one of its Page.
func TestDropOfWhatIsNotThere(t *testing.T) {
	l := []api.Hit{hit(1, 5, 1), hit(2, 6, 2), hit(5, 2, 3)}
	x := with(t, 3, l...)
	for _, k := range []pair{{1, 6}, {2, 5}, {5, 1}, {6, 2}, {5, 5}, {1, 2}, {0, 5}, {1, 0}, {0, 0}, {1, -5}, {-1, 5}, {1, 5 + 512}, {1 + 1<<32, 5}, {1, 1001}} {
		drops(t, x, k.asid, k.page, false)
		knows(t, x, l...)
	}
	for _, a := range odd {
		for _, p := range odd {
			if !slices.ContainsFunc(l, func(h api.Hit) bool { return pairOf(h) == pair{a, p} }) {
				drops(t, x, a, p, false)
			}
		}
	}
	knows(t, x, l...)
}

// P9.1, P9.3: where one was dropped there is room: the next Put has none go.
func TestDropMakesRoom(t *testing.T) {
	a, b, c, d := hit(0, 1, 1), hit(0, 2, 2), hit(0, 3, 3), hit(0, 4, 4)
	x := with(t, 2, a, b)
	drops(t, x, 0, 2, true)
	x.Put(c)
	knows(t, x, a, c)
	x.Put(d)
	knows(t, x, c, d)
}

// P9.1, P9.2: I2, Flush of an Asid that none has, that some have, that all have.
func TestFlush(t *testing.T) {
	l := []api.Hit{hit(1, 5, 1), hit(2, 1, 2), hit(1, 2, 3), hit(0, 2, 4), hit(1, 1, 5), hit(2, 5, 6)}
	for _, most := range []int{7, 8, 512} {
		for _, a := range append(odd, 5, 6, 1001) {
			x := with(t, most, l...)
			var rest []api.Hit
			for _, h := range l {
				if h.Asid != a {
					rest = append(rest, h)
				}
			}
			x.Flush(a)
			knows(t, x, rest...)
			x.Flush(a)
			knows(t, x, rest...)
			x.Put(hit(a, 9, 9))
			knows(t, x, append(rest, hit(a, 9, 9))...)
		}
	}
}

// P9.1: I2, Flush where all are of one Asid, of any size: nothing is left, just of that one.
func TestFlushWhereAllAreOfOneAsid(t *testing.T) {
	for _, a := range odd {
		for _, most := range []int{1, 2, 64, 512} {
			var l []api.Hit
			for n := range most {
				l = append(l, hit(a, n, n))
			}
			x := with(t, most, l...)
			x.Flush(a + 1)
			x.Flush(a - 1)
			x.Flush(a ^ 1<<32)
			knows(t, x, l...)
			x.Flush(a)
			knows(t, x)
			x.Put(l[0])
			knows(t, x, l[0])
		}
	}
}

// P9.1, P9.2: I2, All of one that knows nothing, something, as much as may be; behind it there is room for as many.
func TestAll(t *testing.T) {
	for _, most := range sizes {
		for _, many := range []int{0, 1, most / 2, most, most + 1} {
			x := with(t, most, several(many)...)
			x.All()
			knows(t, x)
			picks(t, x, 0, false)
			l := several(most)
			for _, h := range l {
				x.Put(h)
			}
			knows(t, x, l...)
			x.All()
			x.All()
			knows(t, x)
		}
	}
}

// P9.1: I2, Pick at each place, at as many as there are, beyond, and below 0.
func TestPick(t *testing.T) {
	for _, many := range []int{1, 2, 3, 4, 5, 8} {
		l := several(many)
		for _, most := range []int{many, many + 1, 512} {
			for n := -3*many - 1; n <= 3*many+1; n++ {
				x := with(t, most, l...)
				picks(t, x, n, true)
				i := n
				for i < 0 {
					i += many
				}
				for i >= many {
					i -= many
				}
				knows(t, x, without(l, i)...)
			}
		}
	}
}

// P9.1: I2, Pick of an n far beyond, or far below 0.
func TestPickFarBeyond(t *testing.T) {
	for _, c := range []struct{ many, n, i int }{
		{1, math.MaxInt, 0}, {1, math.MinInt, 0}, {2, math.MaxInt, 1}, {2, math.MinInt, 0}, {2, math.MinInt + 1, 1},
		{3, math.MaxInt, 1}, {3, math.MaxInt - 1, 0}, {3, math.MinInt, 1}, {3, math.MinInt + 1, 2}, {3, 1 << 32, 1}, {3, -1 << 32, 2},
		{5, math.MaxInt, 2}, {5, math.MinInt, 2}, {7, math.MaxInt, 0}, {7, math.MinInt, 6}, {7, math.MinInt + 6, 5},
		{512, 512, 0}, {512, 511, 511}, {512, -1, 511}, {512, -512, 0}, {512, -513, 511}, {512, math.MaxInt, 511}, {512, math.MinInt, 0}, {512, 1<<32 + 3, 3},
	} {
		l := several(c.many)
		x := with(t, 512, l...)
		picks(t, x, c.n, true)
		knows(t, x, without(l, c.i)...)
	}
}

// P9.1: I2, Pick counts anew each time, till there is none.
func TestPickTillThereIsNone(t *testing.T) {
	l := several(5)
	x := with(t, 5, l...)
	picks(t, x, 4, true)
	knows(t, x, l[0], l[1], l[2], l[3])
	picks(t, x, 4, true)
	knows(t, x, l[1], l[2], l[3])
	picks(t, x, -2, true)
	knows(t, x, l[1], l[3])
	picks(t, x, 3, true)
	knows(t, x, l[1])
	picks(t, x, -7, true)
	knows(t, x)
	for _, n := range odd {
		picks(t, x, n, false)
	}
	knows(t, x)
}

// spoil changes all of a list, and its spare room.
func spoil(l []api.Hit) {
	l = l[:cap(l)]
	for i := range l {
		l[i] = api.Hit{Asid: -77, Page: -77, Frame: -77}
	}
}

// P3: who changes what List handed out, or its spare room, changes nothing that is known, and no other list.
func TestListIsNewMemory(t *testing.T) {
	for _, most := range sizes {
		for _, gone := range []int{0, 1, most / 2} {
			l := several(most + 1)
			x := with(t, most, l...)
			want := slices.Clone(l[1:])
			for range min(gone, most) {
				x.Pick(-1)
				want = want[:len(want)-1]
			}
			a, b := x.List(), x.List()
			spoil(a)
			if !slices.Equal(b, want) {
				t.Fatalf("MOST %d: the other list is %v, not %v", most, b, want)
			}
			knows(t, x, want...)
			spoil(b)
			x.Put(hit(9, 9, 9))
			spoil(b)
			if len(want) == most {
				want = want[1:]
			}
			knows(t, x, append(want, hit(9, 9, 9))...)
		}
	}
}

// P3: no later call changes a list that came out, nor its spare room.
func TestNoLaterCallChangesAList(t *testing.T) {
	calls := []func(x *tlb.Tlb){
		func(x *tlb.Tlb) { x.Put(hit(9, 9, 9)) },
		func(x *tlb.Tlb) { x.Put(hit(0, 0, 9)) },
		func(x *tlb.Tlb) { x.Drop(0, 0) },
		func(x *tlb.Tlb) { x.Flush(1) },
		func(x *tlb.Tlb) { x.All() },
		func(x *tlb.Tlb) { x.Pick(0) },
		func(x *tlb.Tlb) { x.Pick(2) },
	}
	for _, most := range []int{4, 5, 6, 7, 8, 512} {
		for _, first := range calls {
			for _, then := range calls {
				x := with(t, most, several(4)...)
				first(x)
				l := x.List()
				l = l[:cap(l)]
				want := slices.Clone(l)
				then(x)
				x.Put(hit(8, 8, 8))
				x.Put(hit(7, 7, 7))
				if !slices.Equal(l, want) {
					t.Fatalf("MOST %d: a list became %v, from %v", most, l, want)
				}
			}
		}
	}
}

// P3: two of them do not touch one another.
func TestTlbsAreApart(t *testing.T) {
	l := several(6)
	x, y := with(t, 4, l[:3]...), with(t, 2, l[3:]...)
	knows(t, x, l[:3]...)
	knows(t, y, l[4:]...)
	y.Put(hit(l[0].Asid, l[0].Page, 9))
	knows(t, x, l[:3]...)
	knows(t, y, l[5], hit(l[0].Asid, l[0].Page, 9))
	x.Drop(l[5].Asid, l[5].Page)
	x.Flush(l[5].Asid)
	knows(t, y, l[5], hit(l[0].Asid, l[0].Page, 9))
	x.All()
	knows(t, x)
	knows(t, y, l[5], hit(l[0].Asid, l[0].Page, 9))
	x.Put(l[1])
	y.Pick(0)
	y.All()
	knows(t, x, l[1])
	knows(t, y)
}

// P3: asking, and what answers false, changes nothing.
func TestAskingChangesNothing(t *testing.T) {
	l := several(3)
	x := with(t, 3, l...)
	for range 3 {
		for _, h := range l {
			gets(t, x, h)
		}
		getsNone(t, x, 7, 7)
		drops(t, x, 7, 7, false)
		x.Flush(7)
		knows(t, x, l...)
	}
	gets(t, x, l[0])
	x.Put(hit(7, 7, 7))
	knows(t, x, l[1], l[2], hit(7, 7, 7))
}

// Kinds of calls that change something.
const (
	put = iota
	drop
	flush
	all
	pick
)

// call is one of them: of a hit, its pair, or its Asid, or of the place n.
type call struct {
	kind int
	hit  api.Hit
	n    int
}

// do does it on both, and tells where they come out apart.
func (c call) do(t *testing.T, x *tlb.Tlb, p *plain) {
	t.Helper()
	switch c.kind {
	case put:
		x.Put(c.hit)
		p.put(c.hit)
	case drop:
		drops(t, x, c.hit.Asid, c.hit.Page, p.drop(pairOf(c.hit)))
	case flush:
		x.Flush(c.hit.Asid)
		p.flush(c.hit.Asid)
	case all:
		x.All()
		p.all()
	case pick:
		picks(t, x, c.n, p.pick(c.n))
	}
}

// fewCalls are all kinds, of four pairs that differ in their Asid alone, or in their Page alone.
func fewCalls() []call {
	l := []call{{kind: all}, {kind: flush, hit: hit(0, 0, 0)}, {kind: flush, hit: hit(1, 0, 0)}, {kind: pick, n: 0}, {kind: pick, n: 1}, {kind: pick, n: -1}}
	for asid := range 2 {
		for page := range 2 {
			l = append(l, call{kind: put, hit: hit(asid, page, 1)}, call{kind: drop, hit: hit(asid, page, 0)})
		}
	}
	return append(l, call{kind: put, hit: hit(0, 0, 2)}, call{kind: put, hit: hit(1, 1, 2)})
}

// P9.1, P9.2, P9.3: all short runs, of small ones, come out as the chapter tells.
func TestAllShortRuns(t *testing.T) {
	calls := fewCalls()
	runs := len(calls) * len(calls) * len(calls) * len(calls)
	for most := 1; most <= 4; most++ {
		for run := range runs {
			x, p := tlb.New(most), newPlain(most)
			for n, rest := 0, run; n < 4; n, rest = n+1, rest/len(calls) {
				calls[rest%len(calls)].do(t, x, p)
			}
			if want := p.list(); !slices.Equal(x.List(), want) || x.Many() != len(want) {
				t.Fatalf("MOST %d, run %d: List is %v, not %v", most, run, x.List(), want)
			}
			for asid := range 2 {
				for page := range 2 {
					h, is := x.Get(asid, page)
					if want, wantIs := p.hits[pair{asid, page}]; h != want || is != wantIs {
						t.Fatalf("MOST %d, run %d: Get(%d, %d) is %v, %t", most, run, asid, page, h, is)
					}
				}
			}
		}
	}
}

// luck tells numbers one behind the other, the same ones each time.
type luck uint64

func (l *luck) next(n int) int {
	*l = *l*6364136223846793005 + 1442695040888963407
	return int((*l >> 33) % luck(n))
}

// some is a call, Puts more often than others, of pairs of which there are about as many as may be.
func (l *luck) some(most int) call {
	c := call{hit: hit(l.next(3), l.next(most/2+2), l.next(16))}
	switch n := l.next(40); {
	case n < 28:
		c.kind = put
	case n < 34:
		c.kind = drop
	case n < 38:
		c.kind, c.n = pick, l.next(4*most+1)-2*most
	case n < 39 || l.next(4) > 0:
		c.kind, c.hit.Asid = flush, l.next(5)
	default:
		c.kind = all
	}
	return c
}

// P9.1, P9.2, P9.3: long runs, of many sizes, come out as the chapter tells behind each call.
func TestLongRuns(t *testing.T) {
	l := luck(9)
	for _, most := range []int{1, 2, 3, 5, 8, 64, 512} {
		x, p := made(t, most), newPlain(most)
		for range 300 + 2*most {
			l.some(most).do(t, x, p)
			knows(t, x, p.list()...)
		}
	}
}

// P9.3: in long runs of Puts and Drops there are never more than MOST, and of other pairs just the first one goes, and just where there are MOST.
func TestOnlyTheFirstOnesGo(t *testing.T) {
	l := luck(3)
	for _, most := range sizes {
		x := made(t, most)
		for range 3*most + 100 {
			h := hit(l.next(4), l.next(most), l.next(16))
			if l.next(8) == 0 {
				x.Drop(h.Asid, h.Page)
				continue
			}
			was := x.List()
			_, there := x.Get(h.Asid, h.Page)
			x.Put(h)
			if !there && len(was) == most {
				was = was[1:]
			}
			was = slices.DeleteFunc(was, func(o api.Hit) bool { return pairOf(o) == pairOf(h) })
			if !slices.Equal(x.List(), append(was, h)) || x.Many() > most {
				t.Fatalf("MOST %d: behind a Put of %v, List is %v, not %v", most, h, x.List(), append(was, h))
			}
		}
	}
}

// P1: every call ends and none panics, at all arguments, whatever is known.
func TestNothingPanics(t *testing.T) {
	for _, most := range odd {
		x := tlb.New(most)
		if x == nil {
			continue
		}
		p := newPlain(most)
		for i, a := range odd {
			for j, b := range odd {
				call{kind: put, hit: hit(a, b, i)}.do(t, x, p)
				call{kind: put, hit: api.Hit{Asid: b, Page: a, Frame: a}}.do(t, x, p)
				call{kind: drop, hit: hit(odd[(i+j)%len(odd)], b, 0)}.do(t, x, p)
				if j%8 == 0 {
					call{kind: pick, n: a}.do(t, x, p)
					call{kind: flush, hit: hit(b, 0, 0)}.do(t, x, p)
				}
			}
			knows(t, x, p.list()...)
		}
		call{kind: all}.do(t, x, p)
		knows(t, x)
	}
}
