package guest_test

import (
	"math"
	"slices"
	"testing"

	"silhouette/api"
	"silhouette/frame"
	"silhouette/gmap"
	"silhouette/guest"
)

// odd are numbers about every edge.
var odd = []int{math.MinInt, math.MinInt + 1, math.MinInt32, -1 << 32, -257, -256, -64, -9, -8, -7, -2, -1, 0, 1, 2, 6, 7, 8, 9, 15, 16, 62, 63, 64, 65, 255, 256, 257, 1 << 32, 1<<32 + 1, 1 << 61, 1 << 62, math.MaxInt32, math.MaxInt - 1, math.MaxInt}

// values are words of any kind.
var values = []uint64{0, 1, 5, 1 << 32, 1 << 63, math.MaxUint64}

// words is what a host is to have, frame by frame.
type words [][api.Words]uint64

// lying is a guest, and the list of its map.
type lying struct {
	m *guest.Mem
	l []int
}

// kind is a host of so many frames, and the list of a map to a host of at least as many.
type kind struct {
	frames int
	l      []int
}

// from is the numbers from first on, as many, each by step more than the last.
func from(first, many, step int) []int {
	l := make([]int, many)
	for i := range l {
		l[i] = first + i*step
	}
	return l
}

// turned is l, backwards.
func turned(l []int) []int {
	l = slices.Clone(l)
	slices.Reverse(l)
	return l
}

// whole are kinds of which the host has all of the map's frames.
func whole() []kind {
	return []kind{
		{1, []int{0}}, {2, []int{0}}, {2, []int{1}}, {256, []int{0}}, {256, []int{255}},
		{2, []int{0, 1}}, {2, []int{1, 0}}, {8, []int{5, 2}}, {10, []int{9, 5, 0, 2}}, {256, []int{255, 0, 128, 64}},
		{5, []int{0, 1, 2, 3, 4}}, {5, []int{4, 2, 0, 3, 1}}, {5, []int{1, 2, 3, 4, 0}},
		{64, from(0, 64, 1)}, {64, turned(from(0, 64, 1))}, {256, from(3, 64, 4)}, {256, turned(from(192, 64, 1))},
	}
}

// partly are kinds of which the host has not all of the map's frames, or none.
func partly() []kind {
	return []kind{
		{1, []int{1}}, {1, []int{255}}, {3, []int{3}}, {3, []int{7, 5, 200}}, {255, []int{255}},
		{1, []int{0, 1}}, {1, []int{1, 0}}, {3, []int{5, 2, 9}}, {3, []int{2, 5, 0}}, {3, []int{9, 2, 7, 0, 8, 1, 255}},
		{64, from(0, 64, 4)}, {64, turned(from(1, 64, 1))}, {255, from(192, 64, 1)},
	}
}

// kinds are all of them.
func kinds() []kind { return append(whole(), partly()...) }

// start is the word that a host has at a place at first: no two are the same, none is 0.
func start(f, i int) uint64 { return 1<<63 | uint64(f+1)<<8 | uint64(i) }

// filled is a host of which every word is start, and what it has.
func filled(t *testing.T, frames int) (*frame.Mem, words) {
	t.Helper()
	h, want := frame.New(frames), make(words, frames)
	for f := range frames {
		for i := range api.Words {
			want[f][i] = start(f, i)
		}
		if !h.Fill(f, want[f][:]) {
			t.Fatalf("Fill(%d) of a host of %d is false", f, frames)
		}
	}
	return h, want
}

// laid is a guest of that list, in that host.
func laid(t *testing.T, h *frame.Mem, l []int) lying {
	t.Helper()
	m := gmap.New(l, api.MaxHost)
	if m == nil {
		t.Fatalf("there is no map of %v", l)
	}
	g := guest.New(h, m)
	if g == nil {
		t.Fatalf("New of %v is nil", l)
	}
	return lying{g, l}
}

// at is the host's frame of a guest's word, and whether it is there.
func (want words) at(l []int, g, i int) (int, bool) {
	if g < 0 || g >= len(l) || i < 0 || i >= api.Words || l[g] >= len(want) {
		return 0, false
	}
	return l[g], true
}

// of is all words of a guest of that list.
func (want words) of(l []int) []uint64 {
	var all []uint64
	for _, h := range l {
		if h < len(want) {
			all = append(all, want[h][:]...)
		}
	}
	return all
}

// load puts a guest's words there, those that are there.
func (want words) load(l []int, all []uint64) {
	for n, v := range all {
		if h, is := want.at(l, n/api.Words, n%api.Words); is {
			want[h][n%api.Words] = v
		}
	}
}

// holds tells where the host has other words than want, or a guest answers otherwise than these words say.
func holds(t *testing.T, h *frame.Mem, want words, guests ...lying) {
	t.Helper()
	if h.Frames() != len(want) {
		t.Fatalf("the host has %d frames, not %d", h.Frames(), len(want))
	}
	for f := range want {
		if !slices.Equal(h.Frame(f), want[f][:]) {
			t.Fatalf("the host's frame %d is %v, not %v", f, h.Frame(f), want[f])
		}
	}
	for _, a := range guests {
		isGuest(t, a, want)
	}
}

// isGuest tells where a guest answers otherwise than the host's words say: Frames, All, and Get of all words, and of some beside them.
func isGuest(t *testing.T, a lying, want words) {
	t.Helper()
	if a.m.Frames() != len(a.l) {
		t.Fatalf("of %v, Frames is %d", a.l, a.m.Frames())
	}
	if all := a.m.All(); !slices.Equal(all, want.of(a.l)) {
		t.Fatalf("of %v, All is %v, not %v", a.l, all, want.of(a.l))
	}
	for g := -2; g < len(a.l)+2; g++ {
		for i := -2; i < api.Words+2; i++ {
			isWord(t, a, want, g, i)
		}
	}
}

// isWord tells if Get answers otherwise than the host's words say.
func isWord(t *testing.T, a lying, want words, g, i int) {
	t.Helper()
	v, is := a.m.Get(g, i)
	h, there := want.at(a.l, g, i)
	if is != there || is && v != want[h][i] || !is && v != 0 {
		t.Fatalf("of %v, of a host of %d, Get(%d, %d) is %d, %t", a.l, len(want), g, i, v, is)
	}
}

// numbers is so many words, from first on.
func numbers(first uint64, many int) []uint64 {
	l := make([]uint64, many)
	for i := range l {
		l[i] = first + uint64(i)
	}
	return l
}

// P7.1: G1, New, Frames, Get and All: the host's frames of the map, in its order; and P7.2: New changes nothing.
func TestNewIsTheHostsFrames(t *testing.T) {
	for _, k := range kinds() {
		h, want := filled(t, k.frames)
		holds(t, h, want, laid(t, h, k.l))
	}
}

// P7.1: G1, of a host that is new, every word is 0, and is there.
func TestNewOfZeros(t *testing.T) {
	for _, k := range whole() {
		h := frame.New(k.frames)
		a := laid(t, h, k.l)
		holds(t, h, make(words, k.frames), a)
		if all := a.m.All(); !slices.Equal(all, make([]uint64, 8*len(k.l))) {
			t.Errorf("of %v, All is %v", k.l, all)
		}
	}
}

// P7.1: G1, G2, few words, told one by one.
func TestFewWords(t *testing.T) {
	h := frame.New(8)
	m := laid(t, h, []int{5, 2}).m
	if !m.Set(0, 0, 7) || !m.Set(0, 7, 8) || !m.Set(1, 3, 9) {
		t.Error("a word that is there can't be set")
	}
	for _, c := range []struct {
		f, i int
		v    uint64
	}{{5, 0, 7}, {5, 7, 8}, {2, 3, 9}, {0, 0, 0}, {0, 7, 0}, {1, 3, 0}, {2, 0, 0}, {5, 3, 0}} {
		if v, is := h.Get(c.f, c.i); v != c.v || !is {
			t.Errorf("the host's word %d, %d is %d, %t, not %d", c.f, c.i, v, is, c.v)
		}
	}
	if l := m.All(); !slices.Equal(l, []uint64{7, 0, 0, 0, 0, 0, 0, 8, 0, 0, 0, 9, 0, 0, 0, 0}) {
		t.Errorf("All is %v", l)
	}
	if !m.Load([]uint64{10, 11, 12, 13, 14, 15, 16, 17, 20, 21, 22, 23, 24, 25, 26, 27}) {
		t.Error("Load of 16 is false")
	}
	if !slices.Equal(h.Frame(5), numbers(10, 8)) || !slices.Equal(h.Frame(2), numbers(20, 8)) {
		t.Errorf("the host's frames are %v and %v", h.Frame(5), h.Frame(2))
	}
}

// P7.1, P7.2: G2, Set of each word, at first and last places too, changes that of the host's alone.
func TestSetChangesOneWord(t *testing.T) {
	for _, k := range kinds() {
		if len(k.l) > 7 {
			k.l = append(slices.Clone(k.l[:2]), k.l[len(k.l)-2:]...)
		}
		h, want := filled(t, k.frames)
		a := laid(t, h, k.l)
		for g := range k.l {
			for i := range api.Words {
				f, there := want.at(k.l, g, i)
				v := values[(g+i)%len(values)]
				if there {
					want[f][i] = v
				}
				if a.m.Set(g, i, v) != there {
					t.Fatalf("of %v, of a host of %d, Set(%d, %d) is not %t", k.l, k.frames, g, i, there)
				}
				holds(t, h, want, a)
			}
		}
	}
}

// P7.1: G2, a word may be any number, and is what was set last.
func TestSetOfAnyWord(t *testing.T) {
	h, want := filled(t, 4)
	a := laid(t, h, []int{3, 1})
	for _, v := range append(slices.Clone(values), values...) {
		want[1][7] = v
		if !a.m.Set(1, 7, v) {
			t.Errorf("Set of %d is false", v)
		}
		holds(t, h, want, a)
	}
}

// P7.1, P2: G1, G2, Get and Set of words that are not there: 0 and false, and nothing has changed.
func TestNoSuchWord(t *testing.T) {
	for _, k := range kinds() {
		h, want := filled(t, k.frames)
		a := laid(t, h, k.l)
		last := len(k.l) - 1
		for _, g := range append([]int{last, last + 1, last + 2, 8 * last, 8 * len(k.l)}, odd...) {
			for _, i := range odd {
				isWord(t, a, want, g, i)
				if _, there := want.at(k.l, g, i); !there && a.m.Set(g, i, 99) {
					t.Fatalf("of %v, of a host of %d, Set(%d, %d) is true", k.l, k.frames, g, i)
				}
			}
		}
		holds(t, h, want, a)
	}
}

// P7.1: G1, G2, the edges: frame 0, the last one, and as many as Frames; word 0, 7 and 8.
func TestEdges(t *testing.T) {
	for _, k := range whole() {
		h, want := filled(t, k.frames)
		a := laid(t, h, k.l)
		many := len(k.l)
		for _, c := range []struct {
			g, i int
			is   bool
		}{
			{0, 0, true}, {0, 7, true}, {0, 8, false}, {0, -1, false},
			{many - 1, 0, true}, {many - 1, 7, true}, {many - 1, 8, false}, {many - 1, -1, false},
			{many, 0, false}, {many, 7, false}, {many, 8, false}, {many, -1, false}, {-1, 0, false}, {-1, 7, false}, {-1, 8, false},
		} {
			if _, is := a.m.Get(c.g, c.i); is != c.is {
				t.Errorf("of %v, Get(%d, %d) is not %t", k.l, c.g, c.i, c.is)
			}
			if a.m.Set(c.g, c.i, 3) != c.is {
				t.Errorf("of %v, Set(%d, %d) is not %t", k.l, c.g, c.i, c.is)
			}
			if c.is {
				want[k.l[c.g]][c.i] = 3
			}
		}
		holds(t, h, want, a)
	}
}

// P7.1, P7.2: G2, Load of just as many: All is these, and no other frame of the host's has changed.
func TestLoadOfAsMany(t *testing.T) {
	for _, k := range whole() {
		h, want := filled(t, k.frames)
		a := laid(t, h, k.l)
		for _, l := range [][]uint64{numbers(1000, 8*len(k.l)), make([]uint64, 8*len(k.l)), numbers(1<<63, 8*len(k.l)), slices.Repeat([]uint64{math.MaxUint64}, 8*len(k.l))} {
			if !a.m.Load(l) {
				t.Fatalf("of %v, Load of %d is false", k.l, len(l))
			}
			if !slices.Equal(a.m.All(), l) {
				t.Fatalf("of %v, All is %v, not %v", k.l, a.m.All(), l)
			}
			want.load(k.l, l)
			holds(t, h, want, a)
		}
	}
}

// P7.1: G2, what is Loaded is got word by word, and what All answers can be Loaded again.
func TestLoadOfAll(t *testing.T) {
	for _, k := range whole() {
		h, want := filled(t, k.frames)
		a := laid(t, h, k.l)
		was := a.m.All()
		l := numbers(5, len(was))
		if !a.m.Load(l) {
			t.Fatalf("of %v, Load is false", k.l)
		}
		for n, v := range l {
			if got, is := a.m.Get(n/8, n%8); got != v || !is {
				t.Fatalf("of %v, the word %d is %d, %t, not %d", k.l, n, got, is, v)
			}
		}
		if !a.m.Load(was) {
			t.Fatalf("of %v, Load of what All was is false", k.l)
		}
		holds(t, h, want, a)
	}
}

// P7.1, P2: G2, the chapter's example, and others: Load of too few or too many is false, and nothing has changed.
func TestLoadOfTooFewOrTooMany(t *testing.T) {
	for _, k := range kinds() {
		h, want := filled(t, k.frames)
		a := laid(t, h, k.l)
		just := 8 * len(k.l)
		if a.m.Load(nil) || a.m.Load([]uint64{}) || a.m.Load(make([]uint64, 0, just)) {
			t.Errorf("of %v, Load of none is true", k.l)
		}
		for _, many := range []int{1, 7, 8, len(k.l), just - 8, just - 7, just - 1, just + 1, just + 7, just + 8, 2 * just, 9 * just, 512, 513, 2048, 5000} {
			if many != just && a.m.Load(make([]uint64, many)) {
				t.Errorf("of %v, Load of %d is true", k.l, many)
			}
		}
		if a.m.Load(make([]uint64, just-1, just+8)) || a.m.Load(make([]uint64, just+1, just+8)) {
			t.Errorf("of %v, Load of a list with room is true", k.l)
		}
		holds(t, h, want, a)
	}
}

// P7.1: a guest's memory lies in the host's: what the host's becomes, it is.
func TestTheHostsWordsAreTheGuests(t *testing.T) {
	for _, k := range kinds() {
		h, want := filled(t, k.frames)
		a := laid(t, h, k.l)
		for f := range k.frames {
			want[f][f%api.Words] = uint64(f)
			if !h.Set(f, f%api.Words, uint64(f)) {
				t.Fatalf("Set of the host's %d is false", f)
			}
		}
		holds(t, h, want, a)
		want[k.frames-1] = [api.Words]uint64{8, 7, 6, 5, 4, 3, 2, 1}
		h.Fill(k.frames-1, []uint64{8, 7, 6, 5, 4, 3, 2, 1})
		holds(t, h, want, a)
	}
}

// P7.2: two guests of other frames of one host: none changes a word of the other's, nor of none's.
func TestGuestsOfOtherFrames(t *testing.T) {
	for _, c := range []struct {
		frames int
		a, b   []int
	}{
		{2, []int{0}, []int{1}}, {3, []int{2}, []int{0}}, {8, []int{5, 2}, []int{3, 6}}, {8, []int{6, 4, 2, 0}, []int{1, 3, 5, 7}},
		{256, []int{0}, []int{255}}, {128, from(0, 64, 2), turned(from(1, 64, 2))}, {256, from(64, 64, 1), from(128, 64, 1)},
	} {
		h, want := filled(t, c.frames)
		a, b := laid(t, h, c.a), laid(t, h, c.b)
		for _, x := range []lying{a, b, a} {
			kept := b
			if slices.Equal(x.l, b.l) {
				kept = a
			}
			was := kept.m.All()
			if !x.m.Set(0, 7, 3) || !x.m.Set(len(x.l)-1, 0, 4) {
				t.Fatalf("of %v, Set is false", x.l)
			}
			want[x.l[0]][7], want[x.l[len(x.l)-1]][0] = 3, 4
			holds(t, h, want, a, b)
			l := numbers(uint64(len(x.l))<<32, 8*len(x.l))
			if !x.m.Load(l) {
				t.Fatalf("of %v, Load is false", x.l)
			}
			want.load(x.l, l)
			holds(t, h, want, a, b)
			if !slices.Equal(kept.m.All(), was) {
				t.Fatalf("a guest of %v has changed one of %v", x.l, kept.l)
			}
		}
	}
}

// P7.1, P7.2: two guests of the same frames in another order: each has the words at its own places.
func TestGuestsOfTheSameFrames(t *testing.T) {
	for _, c := range []struct {
		frames int
		a, b   []int
	}{
		{1, []int{0}, []int{0}}, {2, []int{0, 1}, []int{1, 0}}, {8, []int{5, 2, 7}, []int{7, 5, 2}}, {8, []int{5, 2, 7}, []int{2, 5, 7}},
		{64, from(0, 64, 1), turned(from(0, 64, 1))}, {8, []int{5, 2, 7}, []int{1, 7, 3, 5}},
	} {
		h, want := filled(t, c.frames)
		a, b := laid(t, h, c.a), laid(t, h, c.b)
		holds(t, h, want, a, b)
		for n, x := range []lying{a, b, b, a} {
			l := numbers(uint64(n+1)<<40, 8*len(x.l))
			if !x.m.Load(l) {
				t.Fatalf("of %v, Load is false", x.l)
			}
			want.load(x.l, l)
			holds(t, h, want, a, b)
			g := n % len(x.l)
			if !x.m.Set(g, 7-n, uint64(n)) {
				t.Fatalf("of %v, Set(%d, %d) is false", x.l, g, 7-n)
			}
			want[x.l[g]][7-n] = uint64(n)
			holds(t, h, want, a, b)
		}
	}
}

// P7.1: guests of one map in two hosts, and of two maps that are alike in one host.
func TestGuestsOfOneMap(t *testing.T) {
	m := gmap.New([]int{2, 0}, 3)
	h, want := filled(t, 3)
	o, other := filled(t, 4)
	a, b := lying{guest.New(h, m), []int{2, 0}}, lying{guest.New(o, m), []int{2, 0}}
	c := laid(t, h, []int{2, 0})
	a.m.Set(0, 1, 11)
	b.m.Set(1, 1, 12)
	c.m.Set(1, 2, 13)
	want[2][1], want[0][2], other[0][1] = 11, 13, 12
	holds(t, h, want, a, c)
	holds(t, o, other, b)
}

// P7.1: words of frames that the host has not are not there, alone.
func TestFramesThatTheHostHasNot(t *testing.T) {
	h, want := filled(t, 3)
	for _, l := range [][]int{{3}, {255}, {5, 3, 4}, from(3, 64, 1), from(192, 64, 1)} {
		a := laid(t, h, l)
		for g := range l {
			for i := range api.Words {
				if v, is := a.m.Get(g, i); v != 0 || is {
					t.Fatalf("of %v, Get(%d, %d) is %d, %t", l, g, i, v, is)
				}
				if a.m.Set(g, i, 6) {
					t.Fatalf("of %v, Set(%d, %d) is true", l, g, i)
				}
			}
		}
		if all := a.m.All(); len(all) != 0 || a.m.Frames() != len(l) {
			t.Fatalf("of %v, All is %v, Frames %d", l, all, a.m.Frames())
		}
		a.m.Load(numbers(1, 8*len(l)))
		holds(t, h, want, a)
	}
}

// P7.1: words of frames that the host has not are not there, beside such that it has: these are as they would be alone.
func TestFramesThatTheHostHasNotBeside(t *testing.T) {
	h, want := filled(t, 3)
	a := laid(t, h, []int{5, 2, 9, 0, 3})
	all := slices.Concat(h.Frame(2), h.Frame(0))
	if got := a.m.All(); !slices.Equal(got, all) || a.m.Frames() != 5 {
		t.Errorf("All is %v, Frames %d", got, a.m.Frames())
	}
	for g, is := range []bool{false, true, false, true, false} {
		for i := range api.Words {
			if a.m.Set(g, i, uint64(g)) != is {
				t.Errorf("Set(%d, %d) is not %t", g, i, is)
			}
			if _, there := a.m.Get(g, i); there != is {
				t.Errorf("Get(%d, %d) is not %t", g, i, is)
			}
		}
	}
	want[2], want[0] = [8]uint64{1, 1, 1, 1, 1, 1, 1, 1}, [8]uint64{3, 3, 3, 3, 3, 3, 3, 3}
	holds(t, h, want, a)
}

// P7.1: G2, false is told by how many there are alone; words that are not there are left out of a Load, the others have their own places.
func TestLoadBesideFramesThatTheHostHasNot(t *testing.T) {
	for _, k := range partly() {
		h, want := filled(t, k.frames)
		a := laid(t, h, k.l)
		l := numbers(700, 8*len(k.l))
		if !a.m.Load(l) {
			t.Errorf("of %v, of a host of %d, Load is false", k.l, k.frames)
		}
		want.load(k.l, l)
		holds(t, h, want, a)
	}
}

// P3: a list that is Loaded is not changed, nor its spare room, nor what stands ahead of it, whether it is loaded or not.
func TestLoadLeavesItsListAlone(t *testing.T) {
	for _, k := range kinds() {
		just := 8 * len(k.l)
		for _, many := range []int{0, 1, just - 1, just, just + 1, just + 8} {
			h, _ := filled(t, k.frames)
			a := laid(t, h, k.l)
			room := numbers(50, many+24)
			was := slices.Clone(room)
			is := a.m.Load(room[3 : 3+many])
			a.m.Set(0, 0, 1)
			a.m.Set(len(k.l)-1, 7, 2)
			h.Set(0, 5, 3)
			if !slices.Equal(room, was) {
				t.Fatalf("of %v, Load of %d, that is %t, has made its list %v", k.l, many, is, room)
			}
		}
	}
}

// P3: a list that is Loaded is not kept: what is written to it later, or to its spare room, changes nothing.
func TestLoadKeepsNoList(t *testing.T) {
	for _, k := range kinds() {
		h, want := filled(t, k.frames)
		a := laid(t, h, k.l)
		just := 8 * len(k.l)
		room := numbers(50, just+16)
		a.m.Load(room[:just])
		want.load(k.l, numbers(50, just))
		for i := range room {
			room[i] = 9
		}
		holds(t, h, want, a)
		_ = append(room[:just-1], 1, 2, 3)
		holds(t, h, want, a)
	}
}

// P3: what All answers is new memory, its spare room too: to write to it, or to append to it, changes nothing.
func TestAllIsNewMemory(t *testing.T) {
	for _, k := range kinds() {
		h, want := filled(t, k.frames)
		a := laid(t, h, k.l)
		one, two := a.m.All(), a.m.All()
		room := append(one, 1, 2, 3, 4, 5, 6, 7, 8, 9)
		for i := range room {
			room[i] = 77
		}
		one = one[:cap(one)]
		for i := range one {
			one[i] = 99
		}
		if !slices.Equal(two, want.of(k.l)) {
			t.Fatalf("of %v, two lists share memory: %v", k.l, two)
		}
		holds(t, h, want, a)
	}
}

// P3: what All answered stays as it was, whatever is set or loaded later.
func TestAllStaysAsItWas(t *testing.T) {
	for _, k := range kinds() {
		h, want := filled(t, k.frames)
		a := laid(t, h, k.l)
		was := a.m.All()
		a.m.Set(0, 0, 1)
		a.m.Load(numbers(90, 8*len(k.l)))
		h.Set(0, 0, 2)
		if !slices.Equal(was, want.of(k.l)) {
			t.Fatalf("of %v, a list has become %v", k.l, was)
		}
	}
}

// P3: asking changes nothing: the same calls behind it answer the same; so does what is refused.
func TestAskingChangesNothing(t *testing.T) {
	for _, k := range kinds() {
		h, want := filled(t, k.frames)
		a := laid(t, h, k.l)
		for range 2 {
			a.m.Frames()
			a.m.Get(0, 0)
			a.m.Get(-1, 8)
			a.m.All()
			a.m.Set(len(k.l), 0, 1)
			a.m.Set(0, 8, 1)
			a.m.Load(nil)
			holds(t, h, want, a)
		}
	}
}

// P7.1, P7.2: of many Sets and Loads of three guests, and Sets of the host's, what was set last holds.
func TestWhatWasSetLastHolds(t *testing.T) {
	h, want := filled(t, 9)
	guests := []lying{laid(t, h, []int{5, 2, 7, 20}), laid(t, h, []int{0, 8}), laid(t, h, []int{7, 11, 5, 1})}
	x := uint64(1)
	next := func(n int) int {
		x = x*6364136223846793005 + 1442695040888963407
		return int((x >> 33) % uint64(n))
	}
	for range 2000 {
		a := guests[next(len(guests))]
		switch g, i, v := next(6)-1, next(10)-1, uint64(next(1<<30)); next(5) {
		case 0:
			f := next(9)
			want[f][v%8] = v
			h.Set(f, int(v%8), v)
		case 1:
			l := numbers(v, 8*len(a.l)+max(next(6)-3, -1))
			if a.m.Load(l) != (len(l) == 8*len(a.l)) {
				t.Fatalf("of %v, Load of %d is %t", a.l, len(l), len(l) != 8*len(a.l))
			}
			if len(l) == 8*len(a.l) {
				want.load(a.l, l)
			}
		default:
			f, there := want.at(a.l, g, i)
			if there {
				want[f][i] = v
			}
			if a.m.Set(g, i, v) != there {
				t.Fatalf("of %v, Set(%d, %d) is not %t", a.l, g, i, there)
			}
		}
		holds(t, h, want, guests...)
	}
}

// P1: every call ends and none panics, at all arguments, whatever the host has of the map's frames.
func TestNothingPanics(t *testing.T) {
	lists := [][]uint64{nil, {}, make([]uint64, 1), make([]uint64, 7, 8), make([]uint64, 8), make([]uint64, 9), make([]uint64, 511), make([]uint64, 512), make([]uint64, 513), make([]uint64, 1<<16)}
	for _, k := range kinds() {
		h := frame.New(k.frames)
		a, want := laid(t, h, k.l), make(words, k.frames)
		for _, g := range odd {
			for _, i := range odd {
				_, there := want.at(k.l, g, i)
				if _, is := a.m.Get(g, i); is != there {
					t.Fatalf("of %v, Get(%d, %d) is %t", k.l, g, i, is)
				}
				if a.m.Set(g, i, math.MaxUint64) != there {
					t.Fatalf("of %v, Set(%d, %d) is not %t", k.l, g, i, there)
				}
			}
		}
		for _, l := range lists {
			if a.m.Load(l) != (len(l) == 8*len(k.l)) {
				t.Fatalf("of %v, Load of %d", k.l, len(l))
			}
			if all := a.m.All(); len(all) != len(want.of(k.l)) {
				t.Fatalf("of %v, All has %d", k.l, len(all))
			}
		}
	}
}
