package gmap_test

import (
	"math"
	"slices"
	"testing"

	"silhouette/api"
	"silhouette/gmap"
)

// odd are numbers about every edge.
var odd = []int{math.MinInt, math.MinInt + 1, math.MinInt32, -257, -256, -65, -64, -2, -1, 0, 1, 2, 62, 63, 64, 65, 100, 254, 255, 256, 257, 1 << 32, 1<<32 + 1, 1 << 62, math.MaxInt32, math.MaxInt - 1, math.MaxInt}

// may: may there be a map of l to so many frames, as C1 says?
func may(l []int, frames int) bool {
	if len(l) < 1 || len(l) > 64 || frames < 1 || frames > 256 {
		return false
	}
	for i, h := range l {
		if h < 0 || h > frames-1 || slices.Contains(l[:i], h) {
			return false
		}
	}
	return true
}

// from is the numbers from first on, as many, each by step more than the last.
func from(first, many, step int) []int {
	l := make([]int, many)
	for i := range l {
		l[i] = first + i*step
	}
	return l
}

// swapped is l, backwards.
func swapped(l []int) []int {
	l = slices.Clone(l)
	slices.Reverse(l)
	return l
}

// with is l, with v at i.
func with(l []int, i, v int) []int {
	l = slices.Clone(l)
	l[i] = v
	return l
}

// right are lists, and hosts, that may be.
func right() []struct {
	l      []int
	frames int
} {
	return []struct {
		l      []int
		frames int
	}{
		{[]int{0}, 1}, {[]int{0}, 256}, {[]int{255}, 256}, {[]int{1, 0}, 2}, {[]int{0, 1, 2}, 3}, {[]int{2, 0, 1}, 3},
		{[]int{5, 2, 9}, 10}, {[]int{9, 5, 0, 2}, 10}, {[]int{255, 0, 128, 64}, 256},
		{from(0, 63, 1), 63}, {from(0, 64, 1), 64}, {swapped(from(0, 64, 1)), 64}, {from(0, 64, 4), 253}, {from(3, 64, 4), 256}, {swapped(from(192, 64, 1)), 256},
	}
}

// made is a map that may be.
func made(t *testing.T, l []int, frames int) *gmap.Map {
	t.Helper()
	m := gmap.New(l, frames)
	if m == nil {
		t.Fatalf("New(%v, %d) is nil", l, frames)
	}
	return m
}

// isMap tells where m answers otherwise than a map of want, at all frames about the limits, and at odd ones.
func isMap(t *testing.T, m *gmap.Map, want []int) {
	t.Helper()
	if m.Many() != len(want) {
		t.Fatalf("Many is %d, not %d", m.Many(), len(want))
	}
	for _, x := range append(from(-2, api.MaxHost+4, 1), odd...) {
		h, is := m.Host(x)
		if there := x >= 0 && x < len(want); is != there || there && h != want[x] || !there && h != 0 {
			t.Fatalf("of %v, Host(%d) is %d, %t", want, x, h, is)
		}
		g, is := m.Guest(x)
		if at := slices.Index(want, x); is != (at >= 0) || is && g != at || !is && g != 0 {
			t.Fatalf("of %v, Guest(%d) is %d, %t", want, x, g, is)
		}
	}
}

// P3.1, P2: C1, New, Many; C2, Host and Guest, of what there is and of what there is not: all 0 at the latter.
func TestNewIsTheMapOfItsList(t *testing.T) {
	for _, c := range right() {
		isMap(t, made(t, c.l, c.frames), c.l)
	}
}

// P3.1: C1, the chapter's example: two that are the same, wherever they stand.
func TestNewOfTwoAlikeIsNil(t *testing.T) {
	for _, c := range right() {
		for i := range c.l {
			for j := range i {
				l := with(c.l, i, c.l[j])
				if gmap.New(l, c.frames) != nil {
					t.Fatalf("New(%v, %d) is not nil: %d and %d are alike", l, c.frames, j, i)
				}
			}
		}
	}
	for _, many := range []int{2, 3, 63, 64} {
		if gmap.New(make([]int, many), 256) != nil {
			t.Errorf("New of %d times 0 is not nil", many)
		}
	}
}

// P3.1: C1, a list has 1 to MaxGuest.
func TestNewOfTooFewOrTooMany(t *testing.T) {
	for _, frames := range []int{65, 100, 255, 256} {
		for many := 1; many <= 64; many++ {
			isMap(t, made(t, from(0, many, 1), frames), from(0, many, 1))
		}
		if gmap.New(nil, frames) != nil || gmap.New([]int{}, frames) != nil || gmap.New(make([]int, 0, 8), frames) != nil {
			t.Errorf("New of none, %d is not nil", frames)
		}
		for many := 65; many <= frames; many++ {
			if gmap.New(from(0, many, 1), frames) != nil {
				t.Errorf("New of %d, %d is not nil", many, frames)
			}
		}
	}
	for _, many := range []int{257, 320, 5000} {
		if gmap.New(from(0, many, 1), 256) != nil {
			t.Errorf("New of %d is not nil", many)
		}
	}
}

// P3.1: C1, a host has 1 to MaxHost frames.
func TestNewOfAHostThatMayNotBe(t *testing.T) {
	for frames := 1; frames <= 256; frames++ {
		isMap(t, made(t, []int{0}, frames), []int{0})
	}
	for _, frames := range odd {
		if frames >= 1 && frames <= 256 {
			continue
		}
		for _, l := range [][]int{nil, {}, {0}, {1, 0}, {-1}, {frames - 1}, {frames}, from(0, 64, 1)} {
			if gmap.New(l, frames) != nil {
				t.Errorf("New(%v, %d) is not nil", l, frames)
			}
		}
	}
}

// P3.1: C1, each of a list is 0 to frames, less 1, wherever it stands.
func TestNewOfAFrameThatTheHostHasNot(t *testing.T) {
	for _, c := range right() {
		for i := range c.l {
			for _, h := range append([]int{c.frames - 1, c.frames, c.frames + 1}, odd...) {
				l := with(c.l, i, h)
				if m := gmap.New(l, c.frames); (m != nil) != may(l, c.frames) {
					t.Fatalf("New(%v, %d) is nil: %t", l, c.frames, m == nil)
				}
			}
		}
	}
	for frames := 1; frames <= 256; frames++ {
		isMap(t, made(t, []int{frames - 1}, frames), []int{frames - 1})
		for _, l := range [][]int{{frames}, {0, frames}, {frames, 0}, {-1}, {0, -1}, {-1, 0}} {
			if gmap.New(l, frames) != nil {
				t.Errorf("New(%v, %d) is not nil", l, frames)
			}
		}
	}
}

// P3.1, P3.2: all lists of up to four, of small hosts.
func TestAllShortLists(t *testing.T) {
	for frames := -1; frames <= 5; frames++ {
		kinds := max(frames, 0) + 2 // -1 to frames
		runs := 1
		for many := range 5 {
			for run := range runs {
				l := make([]int, many)
				for i, rest := 0, run; i < many; i, rest = i+1, rest/kinds {
					l[i] = rest%kinds - 1
				}
				m := gmap.New(l, frames)
				if (m != nil) != may(l, frames) {
					t.Fatalf("New(%v, %d) is nil: %t", l, frames, m == nil)
				}
				if m != nil {
					isMap(t, m, l)
				}
			}
			runs *= kinds
		}
	}
}

// P3.2: a guest's frame is that of its host's frame, and the other way; no two have one.
func TestThereAndBack(t *testing.T) {
	for _, c := range right() {
		m := made(t, c.l, c.frames)
		of := map[int]int{}
		for g := range m.Many() {
			h, is := m.Host(g)
			back, it := m.Guest(h)
			if !is || !it || back != g {
				t.Errorf("of %v, %d is %d, %t, and back %d, %t", c.l, g, h, is, back, it)
			}
			if other, two := of[h]; two {
				t.Errorf("of %v, %d and %d have %d", c.l, other, g, h)
			}
			of[h] = g
		}
		guests := 0
		for h := range c.frames {
			g, is := m.Guest(h)
			if !is {
				continue
			}
			guests++
			if there, it := m.Host(g); there != h || !it {
				t.Errorf("of %v, %d is the guest's %d, and there %d, %t", c.l, h, g, there, it)
			}
		}
		if guests != m.Many() {
			t.Errorf("of %v, %d frames are a guest's", c.l, guests)
		}
	}
}

// P3.1, P3.2: frames of all hosts, laid by a rule of their own.
func TestMapsOfAllHosts(t *testing.T) {
	for frames := 1; frames <= 256; frames++ {
		for _, step := range []int{1, 3, 5, 7, 11, 127} {
			l := []int{}
			for h := frames / 2; len(l) < 64 && !slices.Contains(l, h); h = (h + step) % frames {
				l = append(l, h)
			}
			isMap(t, made(t, l, frames), l)
		}
	}
}

// P3: a list that is changed behind New changes no map, nor does its spare room.
func TestAListIsNotKept(t *testing.T) {
	for _, c := range right() {
		whole := append(slices.Clone(c.l), from(300, 8, 1)...)
		l := whole[:len(c.l)]
		m := made(t, l, c.frames)
		for i := range whole {
			whole[i] = -7
		}
		isMap(t, m, c.l)
		for i := range l {
			l[i] = i
		}
		_ = append(l, 1, 2)
		isMap(t, m, c.l)
	}
}

// P3: a list is not changed, nor its spare room, nor what stands ahead of it, whether there is a map of it or not.
func TestAListIsNotChanged(t *testing.T) {
	wrong := [][]int{{}, {5, 5}, {3, -1}, {3, 256}, {9, 8, 9}, from(0, 65, 1), make([]int, 64)}
	for _, c := range right() {
		wrong = append(wrong, c.l)
	}
	for _, want := range wrong {
		for _, frames := range []int{-1, 0, 1, 10, 256, 257} {
			whole := append(append([]int{-3, -2}, want...), from(400, 70, 1)...)
			was := slices.Clone(whole)
			m := gmap.New(whole[2:2+len(want)], frames)
			if m != nil {
				m.Many()
				m.Host(0)
				m.Guest(0)
			}
			if !slices.Equal(whole, was) {
				t.Errorf("New(%v, %d) changes its list: %v", want, frames, whole)
			}
		}
	}
}

// P3: what a map answers hangs on its own list alone.
func TestMapsAreApart(t *testing.T) {
	l := []int{5, 2, 9}
	m := made(t, l, 10)
	same := made(t, l, 10)
	l[0], l[2] = 9, 5
	other := made(t, l, 10)
	more := made(t, []int{1, 2, 3, 4}, 256)
	for _, bad := range [][]int{{1, 1}, {7, 10}, nil} {
		if gmap.New(bad, 10) != nil {
			t.Errorf("New(%v, 10) is not nil", bad)
		}
	}
	isMap(t, m, []int{5, 2, 9})
	isMap(t, same, []int{5, 2, 9})
	isMap(t, other, []int{9, 2, 5})
	isMap(t, more, []int{1, 2, 3, 4})
}

// P3: asking changes nothing: the same calls behind it answer the same.
func TestAskingChangesNothing(t *testing.T) {
	for _, c := range right() {
		m := made(t, c.l, c.frames)
		for range 3 {
			isMap(t, m, c.l)
		}
	}
}

// P1: every call ends and none panics, at all arguments.
func TestNothingPanics(t *testing.T) {
	lists := [][]int{nil, {}, make([]int, 64), from(0, 64, 1), from(0, 65, 1), make([]int, 5000)}
	for _, a := range odd {
		lists = append(lists, []int{a})
		for _, b := range odd {
			lists = append(lists, []int{a, b})
		}
	}
	for _, frames := range odd {
		for _, l := range lists {
			m := gmap.New(l, frames)
			if (m != nil) != may(l, frames) {
				t.Fatalf("New(%v, %d) is nil: %t", l, frames, m == nil)
			}
			if m != nil {
				isMap(t, m, l)
			}
		}
	}
}
