package frame_test

import (
	"math"
	"slices"
	"testing"

	"silhouette/api"
	"silhouette/frame"
)

// wrongPlaces are places that no frame has.
var wrongPlaces = []int{math.MinInt, -api.Words, -1, api.Words, api.Words + 1, 2 * api.Words, 1 << 32, math.MaxInt}

// wrongFrames are frames that a memory of so many has not.
func wrongFrames(frames int) []int {
	return []int{math.MinInt, -frames, -1, frames, frames + 1, api.MaxHost + 1, 1 << 32, math.MaxInt}
}

// start is the word that filled puts at a place: no two are the same, none is 0.
func start(f, i int) uint64 { return 1<<63 | uint64(f)<<8 | uint64(i) }

// filled is a memory of which every word is start.
func filled(t *testing.T, frames int) *frame.Mem {
	t.Helper()
	m := frame.New(frames)
	if m == nil {
		t.Fatalf("New(%d) is nil", frames)
	}
	for f := range frames {
		for i := range api.Words {
			if !m.Set(f, i, start(f, i)) {
				t.Fatalf("Set(%d, %d) is false", f, i)
			}
		}
	}
	return m
}

// holds tells where m's words, by Get and by Frame, are not those that want says.
func holds(t *testing.T, m *frame.Mem, frames int, want func(f, i int) uint64) {
	t.Helper()
	if m.Frames() != frames {
		t.Fatalf("Frames is %d, not %d", m.Frames(), frames)
	}
	for f := range frames {
		l := m.Frame(f)
		if len(l) != api.Words {
			t.Fatalf("Frame(%d) has %d words", f, len(l))
		}
		for i := range api.Words {
			v, is := m.Get(f, i)
			if v != want(f, i) || !is {
				t.Errorf("Get(%d, %d) is %d, %t, not %d", f, i, v, is, want(f, i))
			}
			if l[i] != want(f, i) {
				t.Errorf("Frame(%d) has %d at %d, not %d", f, l[i], i, want(f, i))
			}
		}
	}
}

// but is start, other than at one place.
func but(f, i int, v uint64) func(int, int) uint64 {
	return func(g, j int) uint64 {
		if g == f && j == i {
			return v
		}
		return start(g, j)
	}
}

// P1.1: A1, New and Frames.
func TestNewIsOneOfOneToMaxHost(t *testing.T) {
	for _, n := range []int{1, 2, 3, 64, 128, 255, 256} {
		m := frame.New(n)
		if m == nil {
			t.Errorf("New(%d) is nil", n)
		} else if m.Frames() != n {
			t.Errorf("New(%d) has %d frames", n, m.Frames())
		}
	}
	for _, n := range []int{math.MinInt, -256, -2, -1, 0, 257, 258, 512, 1 << 32, 1<<32 + 1, math.MaxInt} {
		if frame.New(n) != nil {
			t.Errorf("New(%d) is not nil", n)
		}
	}
}

// P1.1: all words are 0 at first.
func TestNewIsZero(t *testing.T) {
	for _, n := range []int{1, 2, 256} {
		holds(t, frame.New(n), n, func(int, int) uint64 { return 0 })
	}
}

// P1.1, P2: A1, Get and Frame of what there is not.
func TestNoSuchWordIsZero(t *testing.T) {
	for _, n := range []int{1, 3, 256} {
		m := filled(t, n)
		for _, f := range wrongFrames(n) {
			for _, i := range append([]int{0, 7}, wrongPlaces...) {
				if v, is := m.Get(f, i); v != 0 || is {
					t.Errorf("of %d, Get(%d, %d) is %d, %t", n, f, i, v, is)
				}
			}
			if l := m.Frame(f); len(l) != 0 {
				t.Errorf("of %d, Frame(%d) is %v", n, f, l)
			}
		}
		for _, i := range wrongPlaces {
			for _, f := range []int{0, n - 1} {
				if v, is := m.Get(f, i); v != 0 || is {
					t.Errorf("of %d, Get(%d, %d) is %d, %t", n, f, i, v, is)
				}
			}
		}
	}
}

// P1.1, P1.2: A2, Set changes its word alone.
func TestSetChangesOneWord(t *testing.T) {
	for _, n := range []int{1, 3} {
		for f := range n {
			for i := range api.Words {
				for _, v := range []uint64{0, 1, 5, 1 << 32, 1 << 63, math.MaxUint64} {
					m := filled(t, n)
					if !m.Set(f, i, v) {
						t.Errorf("Set(%d, %d, %d) is false", f, i, v)
					}
					holds(t, m, n, but(f, i, v))
				}
			}
		}
	}
}

// P1.2: the greatest memory's first and last words are words like others.
func TestSetAtTheEdges(t *testing.T) {
	for _, c := range [][2]int{{0, 0}, {0, 7}, {255, 0}, {255, 7}} {
		m := filled(t, api.MaxHost)
		if !m.Set(c[0], c[1], 77) {
			t.Errorf("Set(%d, %d) is false", c[0], c[1])
		}
		holds(t, m, api.MaxHost, but(c[0], c[1], 77))
	}
}

// P1.2: of many Sets and Fills, what was set last holds.
func TestWhatWasSetLastHolds(t *testing.T) {
	const frames = 5
	m := frame.New(frames)
	var want [frames][api.Words]uint64
	x := uint64(1)
	next := func(n uint64) uint64 {
		x = x*6364136223846793005 + 1442695040888963407
		return (x >> 33) % n
	}
	for range 300 {
		f, i := int(next(frames)), int(next(api.Words))
		if next(4) == 0 {
			l := make([]uint64, api.Words)
			for j := range l {
				l[j] = next(1 << 30)
			}
			want[f] = [api.Words]uint64(l)
			if !m.Fill(f, l) {
				t.Fatalf("Fill(%d) is false", f)
			}
		} else {
			want[f][i] = next(1 << 30)
			if !m.Set(f, i, want[f][i]) {
				t.Fatalf("Set(%d, %d) is false", f, i)
			}
		}
		holds(t, m, frames, func(f, i int) uint64 { return want[f][i] })
	}
}

// P1.1, P2: A2, Set of what there is not changes nothing.
func TestSetOfNoWordChangesNothing(t *testing.T) {
	for _, n := range []int{1, 3, 256} {
		m := filled(t, n)
		for _, f := range wrongFrames(n) {
			for _, i := range append([]int{0, 7}, wrongPlaces...) {
				if m.Set(f, i, 5) {
					t.Errorf("of %d, Set(%d, %d) is true", n, f, i)
				}
			}
		}
		for _, i := range wrongPlaces {
			for _, f := range []int{0, n - 1} {
				if m.Set(f, i, 5) {
					t.Errorf("of %d, Set(%d, %d) is true", n, f, i)
				}
			}
		}
		holds(t, m, n, start)
	}
}

// P1.1, P1.2: A2, Fill changes its frame alone.
func TestFillChangesOneFrame(t *testing.T) {
	for _, n := range []int{1, 3, 256} {
		for _, f := range []int{0, n / 2, n - 1} {
			m := filled(t, n)
			l := []uint64{9, 0, math.MaxUint64, 1 << 63, 5, 6, 7, 8}
			if !m.Fill(f, l) {
				t.Errorf("of %d, Fill(%d) is false", n, f)
			}
			holds(t, m, n, func(g, j int) uint64 {
				if g == f {
					return l[j]
				}
				return start(g, j)
			})
		}
	}
}

// P1.1, P2: A2, a Fill with fewer or more than eight words, or of no frame, changes nothing.
func TestFillThatMayNotBeChangesNothing(t *testing.T) {
	for _, n := range []int{1, 3, 256} {
		m := filled(t, n)
		for _, f := range []int{0, n - 1} {
			if m.Fill(f, nil) {
				t.Errorf("of %d, Fill(%d) with nil is true", n, f)
			}
			for _, many := range []int{0, 1, 7, 9, 16} {
				if m.Fill(f, make([]uint64, many, 32)) {
					t.Errorf("of %d, Fill(%d) with %d words is true", n, f, many)
				}
			}
		}
		for _, f := range wrongFrames(n) {
			for _, many := range []int{0, 7, 8, 9} {
				if m.Fill(f, make([]uint64, many)) {
					t.Errorf("of %d, Fill(%d) with %d words is true", n, f, many)
				}
			}
		}
		holds(t, m, n, start)
	}
}

// P1.1: A2, Same is of all words; it is true again, if they are alike again.
func TestSameIsOfAllWords(t *testing.T) {
	for _, n := range []int{1, 3} {
		m, o := filled(t, n), filled(t, n)
		if !m.Same(m) || !m.Same(o) || !o.Same(m) {
			t.Errorf("of %d: the same words are not the same", n)
		}
		for f := range n {
			for i := range api.Words {
				o.Set(f, i, start(f, i)^1<<40)
				if m.Same(o) || o.Same(m) {
					t.Errorf("of %d: other words at %d, %d are the same", n, f, i)
				}
				o.Set(f, i, start(f, i))
				if !m.Same(o) || !o.Same(m) {
					t.Errorf("of %d: words that are alike again at %d, %d are not the same", n, f, i)
				}
			}
		}
		holds(t, m, n, start)
		holds(t, o, n, start)
	}
}

// P1.1: A2, Same of memories of unlike sizes, though the words that both have are the same.
func TestSameOfUnlikeSizes(t *testing.T) {
	sizes := []int{1, 2, 3, 255, 256}
	for _, a := range sizes {
		for _, b := range sizes {
			if frame.New(a).Same(frame.New(b)) != (a == b) {
				t.Errorf("zeros of %d and %d", a, b)
			}
			if filled(t, a).Same(filled(t, b)) != (a == b) {
				t.Errorf("words of %d and %d", a, b)
			}
		}
	}
}

// P1.1: words count by their frames too, not by their order alone.
func TestSameOfFramesElsewhere(t *testing.T) {
	m, o := frame.New(2), frame.New(2)
	m.Set(0, 3, 5)
	o.Set(1, 3, 5)
	if m.Same(o) || o.Same(m) {
		t.Error("a word of another frame is the same")
	}
}

// P1: every call ends, and none panics, at all arguments.
func TestNothingPanics(t *testing.T) {
	odd := []int{math.MinInt, math.MinInt32, -257, -9, -8, -1, 0, 1, 7, 8, 9, 255, 256, 257, math.MaxInt32, math.MaxInt}
	lists := [][]uint64{nil, {}, make([]uint64, 7), make([]uint64, 7, 8), make([]uint64, 8), make([]uint64, 9), make([]uint64, 5000)}
	for _, n := range odd {
		m := frame.New(n)
		if m == nil {
			continue
		}
		for _, f := range odd {
			for _, i := range odd {
				there := f >= 0 && f < n && i >= 0 && i < api.Words
				if _, is := m.Get(f, i); is != there {
					t.Errorf("of %d, Get(%d, %d) is %t", n, f, i, is)
				}
				if m.Set(f, i, math.MaxUint64) != there {
					t.Errorf("of %d, Set(%d, %d) is not %t", n, f, i, there)
				}
			}
			for _, l := range lists {
				if m.Fill(f, l) != (f >= 0 && f < n && len(l) == api.Words) {
					t.Errorf("of %d, Fill(%d) with %d words", n, f, len(l))
				}
			}
			if (len(m.Frame(f)) == api.Words) != (f >= 0 && f < n) {
				t.Errorf("of %d, Frame(%d) has %d words", n, f, len(m.Frame(f)))
			}
		}
	}
}

// P3: a frame that comes out is new memory, its spare room too.
func TestFrameIsNewMemory(t *testing.T) {
	m := filled(t, 3)
	a, b := m.Frame(1), m.Frame(1)
	a = a[:cap(a)]
	for i := range a {
		a[i] = 99
	}
	for i, v := range b {
		if v != start(1, i) {
			t.Errorf("two lists share the word %d", i)
		}
	}
	holds(t, m, 3, start)
	m.Set(1, 0, 7)
	if b[0] != start(1, 0) {
		t.Error("a list changes with its memory")
	}
}

// P3: what is handed in is not changed, nor its spare room, and not kept.
func TestFillLeavesItsListAlone(t *testing.T) {
	for _, many := range []int{7, 8, 9} {
		m := filled(t, 3)
		room := make([]uint64, 16)
		for i := range room {
			room[i] = uint64(100 + i)
		}
		was := slices.Clone(room)
		is := m.Fill(1, room[:many])
		m.Set(1, 7, 7)
		if !slices.Equal(room, was) {
			t.Errorf("a list of %d has changed: %v", many, room)
		}
		for i := range room {
			room[i] = 1
		}
		holds(t, m, 3, func(f, i int) uint64 {
			switch {
			case f == 1 && i == 7:
				return 7
			case f == 1 && is:
				return uint64(100 + i)
			}
			return start(f, i)
		})
	}
}

// P3: what a memory answers hangs on the calls on it alone, not on those on another one.
func TestMemoriesAreApart(t *testing.T) {
	m, o := filled(t, 2), frame.New(2)
	holds(t, o, 2, func(int, int) uint64 { return 0 })
	o.Fill(0, make([]uint64, api.Words))
	o.Fill(1, m.Frame(0))
	o.Set(1, 2, 3)
	holds(t, m, 2, start)
	m.Set(0, 0, 1)
	if v, _ := o.Get(1, 0); v != start(0, 0) {
		t.Errorf("a word changed with another memory's: %d", v)
	}
}

// P3: asking changes nothing, and answers the same again.
func TestAskingChangesNothing(t *testing.T) {
	m, o := filled(t, 3), filled(t, 3)
	for range 2 {
		m.Get(1, 1)
		m.Get(3, 8)
		m.Frame(2)
		m.Frame(-1)
		m.Same(frame.New(1))
		if m.Frames() != 3 || !m.Same(o) {
			t.Error("a memory has changed by being asked")
		}
	}
	holds(t, m, 3, start)
}
