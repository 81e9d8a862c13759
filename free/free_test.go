package free_test

import (
	"math"
	"slices"
	"testing"

	"silhouette/api"
	"silhouette/free"
)

// odd are numbers about every edge.
var odd = []int{math.MinInt, math.MinInt + 1, math.MinInt32, -257, -256, -2, -1, 0, 1, 2, 100, 255, 256, 257, 1 << 32, 1<<32 + 1, 1 << 62, math.MaxInt32, math.MaxInt - 256, math.MaxInt - 1, math.MaxInt}

// sizes are first and many of lists that may be.
var sizes = [][2]int{{0, 0}, {0, 1}, {0, 3}, {4, 0}, {4, 1}, {4, 3}, {0, 256}, {1, 255}, {200, 56}, {255, 1}, {256, 0}}

// made is a list that may be.
func made(t *testing.T, first, many int) *free.List {
	t.Helper()
	l := free.New(first, many)
	if l == nil {
		t.Fatalf("New(%d, %d) is nil", first, many)
	}
	return l
}

// takes tells if the next Take is not of that frame.
func takes(t *testing.T, l *free.List, want int) {
	t.Helper()
	if f, is := l.Take(); f != want || !is {
		t.Fatalf("Take is %d, %t, not %d", f, is, want)
	}
}

// takesNone tells if there is one to take.
func takesNone(t *testing.T, l *free.List) {
	t.Helper()
	if f, is := l.Take(); f != 0 || is {
		t.Fatalf("Take is %d, %t, of none", f, is)
	}
}

// gives tells if Give of that frame does not answer so.
func gives(t *testing.T, l *free.List, f int, want bool) {
	t.Helper()
	if l.Give(f) != want {
		t.Fatalf("Give(%d) is not %t", f, want)
	}
}

// isFree tells where the list has others free than these.
func isFree(t *testing.T, l *free.List, want ...int) {
	t.Helper()
	if l.Left() != len(want) {
		t.Fatalf("Left is %d, not %d", l.Left(), len(want))
	}
	for f := -2; f <= api.MaxHost+2; f++ {
		if l.Has(f) != slices.Contains(want, f) {
			t.Fatalf("Has(%d) is %t", f, l.Has(f))
		}
	}
	for _, f := range odd {
		if l.Has(f) != slices.Contains(want, f) {
			t.Fatalf("Has(%d) is %t", f, l.Has(f))
		}
	}
}

// from is the frames from first on, as many.
func from(first, many int) []int {
	var l []int
	for i := range many {
		l = append(l, first+i)
	}
	return l
}

// drained is what l answers to all Takes till there is none.
func drained(t *testing.T, l *free.List) []int {
	t.Helper()
	var out []int
	for range api.MaxHost + 1 {
		f, is := l.Take()
		if !is {
			if f != 0 {
				t.Fatalf("Take of none is %d", f)
			}
			return out
		}
		out = append(out, f)
	}
	t.Fatal("there is always one more to take")
	return nil
}

// P2.1: B1, New is a list of the frames from first on, as many, and all are free.
func TestNewIsAllFree(t *testing.T) {
	for _, c := range sizes {
		isFree(t, made(t, c[0], c[1]), from(c[0], c[1])...)
	}
}

// P2.1: B1, New is nil just if first or many is below 0, or both together are above MaxHost.
func TestNewThatMayNotBeIsNil(t *testing.T) {
	for _, c := range [][2]int{{-1, 0}, {-1, 1}, {-1, 2}, {-1, 257}, {-256, 256}, {0, -1}, {2, -1}, {256, -1}, {257, -1}, {300, -100}, {-1, -1}, {0, 257}, {1, 256}, {200, 57}, {256, 1}, {257, 0}, {1 << 62, 1 << 62}, {math.MaxInt, 1}, {1, math.MaxInt}, {math.MaxInt, math.MaxInt}, {math.MinInt, math.MaxInt}, {math.MinInt, math.MinInt}, {math.MaxInt, math.MinInt}} {
		if free.New(c[0], c[1]) != nil {
			t.Errorf("New(%d, %d) is not nil", c[0], c[1])
		}
	}
	for first := -2; first <= 258; first++ {
		for many := -2; many <= 258; many++ {
			may := first >= 0 && many >= 0 && first+many <= 256
			if (free.New(first, many) != nil) != may {
				t.Errorf("New(%d, %d) is nil: %t", first, many, may)
			}
		}
	}
}

// P2.1: B2, the chapter's example.
func TestTakeTheExample(t *testing.T) {
	l := made(t, 4, 2)
	takes(t, l, 4)
	takes(t, l, 5)
	takesNone(t, l)
}

// P2.1, P2.3: B2, where none was given back, the least is taken, each once, and no more than there are.
func TestTakeOfNewIsFromTheLeastOn(t *testing.T) {
	for _, c := range sizes {
		l := made(t, c[0], c[1])
		all := from(c[0], c[1])
		for i, want := range all {
			takes(t, l, want)
			isFree(t, l, all[i+1:]...)
		}
		for range 3 {
			takesNone(t, l)
			isFree(t, l)
		}
	}
}

// P2.1: B2, of those given back, the last one is taken first, whatever its number; behind them the least that never was.
func TestTakeIsWhatWasGivenBackLast(t *testing.T) {
	for _, order := range [][]int{{4}, {5}, {6}, {4, 5}, {5, 4}, {4, 6}, {6, 4}, {4, 5, 6}, {4, 6, 5}, {5, 4, 6}, {5, 6, 4}, {6, 4, 5}, {6, 5, 4}} {
		l := made(t, 4, 6)
		for f := 4; f < 7; f++ {
			takes(t, l, f)
		}
		for i, f := range order {
			gives(t, l, f, true)
			isFree(t, l, append([]int{7, 8, 9}, order[:i+1]...)...)
		}
		for i := range order {
			takes(t, l, order[len(order)-1-i])
		}
		if got := drained(t, l); !slices.Equal(got, []int{7, 8, 9}) {
			t.Errorf("behind %v, %v are taken", order, got)
		}
	}
}

// P2.1: B2, a Give between Takes goes ahead of those that were given back earlier, and of those that never were.
func TestTakeAndGiveInTurn(t *testing.T) {
	l := made(t, 0, 5)
	takes(t, l, 0)
	takes(t, l, 1)
	takes(t, l, 2)
	gives(t, l, 1, true)
	gives(t, l, 0, true)
	takes(t, l, 0)
	gives(t, l, 2, true)
	gives(t, l, 0, true)
	takes(t, l, 0)
	takes(t, l, 2)
	takes(t, l, 1)
	takes(t, l, 3)
	gives(t, l, 0, true)
	takes(t, l, 0)
	takes(t, l, 4)
	takesNone(t, l)
	isFree(t, l)
}

// P2.1: B2, a frame that was given back and taken once more counts by when it was given back last.
func TestTakeCountsTheLastGive(t *testing.T) {
	l := made(t, 10, 3)
	takes(t, l, 10)
	takes(t, l, 11)
	gives(t, l, 10, true)
	takes(t, l, 10)
	gives(t, l, 11, true)
	gives(t, l, 10, true)
	takes(t, l, 10)
	takes(t, l, 11)
	takes(t, l, 12)
	takesNone(t, l)
}

// P2.1: B2, Give of what is not of the list is false and changes nothing.
func TestGiveOfWhatIsNotOfTheList(t *testing.T) {
	for _, c := range sizes {
		for taken := 0; taken <= c[1]; taken += 1 + c[1]/3 {
			l := made(t, c[0], c[1])
			for i := range taken {
				takes(t, l, c[0]+i)
			}
			wrong := append([]int{c[0] - 1, c[0] + c[1], c[0] + c[1] + 1}, odd...)
			for _, f := range wrong {
				if f < c[0] || f >= c[0]+c[1] {
					gives(t, l, f, false)
				}
			}
			rest := from(c[0]+taken, c[1]-taken)
			isFree(t, l, rest...)
			if got := drained(t, l); !slices.Equal(got, rest) {
				t.Errorf("of %v, behind %d Takes %v are taken", c, taken, got)
			}
		}
	}
}

// P2.1, P2.2: B2, Give of one that was never taken is false and changes nothing.
func TestGiveOfOneNeverTaken(t *testing.T) {
	for _, c := range sizes {
		l := made(t, c[0], c[1])
		all := from(c[0], c[1])
		for _, f := range all {
			gives(t, l, f, false)
		}
		isFree(t, l, all...)
		if got := drained(t, l); !slices.Equal(got, all) {
			t.Errorf("of %v, %v are taken", c, got)
		}
	}
}

// P2.1, P2.2: B2, Give of the same one twice is false the second time, and does not bring it forward.
func TestGiveTwiceOfTheSame(t *testing.T) {
	l := made(t, 4, 3)
	takes(t, l, 4)
	takes(t, l, 5)
	gives(t, l, 4, true)
	gives(t, l, 4, false)
	gives(t, l, 5, true)
	gives(t, l, 4, false)
	gives(t, l, 5, false)
	gives(t, l, 6, false)
	isFree(t, l, 4, 5, 6)
	if got := drained(t, l); !slices.Equal(got, []int{5, 4, 6}) {
		t.Errorf("%v are taken", got)
	}
	gives(t, l, 4, true)
	gives(t, l, 4, false)
	takes(t, l, 4)
	takesNone(t, l)
}

// P2.3: the greatest list is taken whole, given back whole, and taken whole again.
func TestAllOfTheGreatest(t *testing.T) {
	l := made(t, 0, api.MaxHost)
	all := from(0, api.MaxHost)
	if got := drained(t, l); !slices.Equal(got, all) {
		t.Errorf("%v are taken", got)
	}
	for _, f := range all {
		gives(t, l, f, true)
	}
	isFree(t, l, all...)
	slices.Reverse(all)
	if got := drained(t, l); !slices.Equal(got, all) {
		t.Errorf("behind Gives of all, %v are taken", got)
	}
}

// plain is a list as the chapter tells it: each frame with when it was given back last (0: never), or taken.
type plain struct {
	first int
	free  []bool
	when  []int
	clock int
}

func (p *plain) take() (int, bool) {
	best := -1
	for i := range p.free {
		if p.free[i] && (best < 0 || p.when[i] > p.when[best]) {
			best = i
		}
	}
	if best < 0 {
		return 0, false
	}
	p.free[best] = false
	return p.first + best, true
}

func (p *plain) give(f int) bool {
	i := f - p.first
	if i < 0 || i >= len(p.free) || p.free[i] {
		return false
	}
	p.clock++
	p.free[i], p.when[i] = true, p.clock
	return true
}

func (p *plain) all() []int {
	var l []int
	for i, is := range p.free {
		if is {
			l = append(l, p.first+i)
		}
	}
	return l
}

// newPlain is one of which all are free.
func newPlain(first, many int) *plain {
	p := &plain{first: first, free: make([]bool, many), when: make([]int, many)}
	for i := range p.free {
		p.free[i] = true
	}
	return p
}

// step does a Take (give below 0), or a Give, on both, and tells where they come out apart.
func step(t *testing.T, l *free.List, p *plain, take bool, give int) {
	t.Helper()
	if take {
		f, is := l.Take()
		if want, wantIs := p.take(); f != want || is != wantIs {
			t.Fatalf("Take is %d, %t, not %d, %t", f, is, want, wantIs)
		}
		return
	}
	gives(t, l, give, p.give(give))
}

// P2.1, P2.2, P2.3: all short runs of Takes and Gives, of a small list.
func TestAllShortRuns(t *testing.T) {
	const first, many, steps = 2, 3, 7
	const kinds = many + 3 // a Take, a Give of each, and of the two beside
	runs := 1
	for range steps {
		runs *= kinds
	}
	for run := range runs {
		l, p := free.New(first, many), newPlain(first, many)
		for n, rest := 0, run; n < steps; n, rest = n+1, rest/kinds {
			step(t, l, p, rest%kinds == 0, first-2+rest%kinds)
			if left := len(p.all()); l.Left() != left {
				t.Fatalf("run %d: Left is %d, not %d", run, l.Left(), left)
			}
		}
		for f := first - 1; f <= first+many; f++ {
			if l.Has(f) != slices.Contains(p.all(), f) {
				t.Fatalf("run %d: Has(%d) is %t", run, f, l.Has(f))
			}
		}
	}
}

// P2.1, P2.2, P2.3: long runs, of lists of all sizes.
func TestLongRuns(t *testing.T) {
	x := uint64(1)
	next := func(n int) int {
		x = x*6364136223846793005 + 1442695040888963407
		return int((x >> 33) % uint64(n))
	}
	for _, c := range sizes {
		l, p := made(t, c[0], c[1]), newPlain(c[0], c[1])
		for range 3 * (c[1] + 20) {
			step(t, l, p, next(5) < 3, c[0]-1+next(c[1]+2))
			isFree(t, l, p.all()...)
		}
	}
}

// P1, P2: every call ends and none panics, at all arguments, whether all, some or none are free.
func TestNothingPanics(t *testing.T) {
	for _, first := range odd {
		for _, many := range odd {
			l := free.New(first, many)
			if l == nil {
				continue
			}
			p := newPlain(first, many)
			for range many + 2 {
				isFree(t, l, p.all()...)
				step(t, l, p, true, 0)
			}
			for _, f := range odd {
				step(t, l, p, false, f)
				step(t, l, p, false, f)
				isFree(t, l, p.all()...)
			}
			for range many + 2 {
				step(t, l, p, true, 0)
			}
			isFree(t, l)
		}
	}
}

// P3: what a list answers hangs on the calls on it alone, not on those on another one.
func TestListsAreApart(t *testing.T) {
	l, o := made(t, 4, 3), made(t, 4, 3)
	takes(t, l, 4)
	takes(t, l, 5)
	isFree(t, o, 4, 5, 6)
	gives(t, o, 4, false)
	gives(t, l, 4, true)
	isFree(t, o, 4, 5, 6)
	takes(t, o, 4)
	takes(t, o, 5)
	gives(t, o, 5, true)
	isFree(t, l, 4, 6)
	takes(t, l, 4)
	takes(t, l, 6)
	takes(t, o, 5)
	takes(t, o, 6)
	isFree(t, l)
	isFree(t, o)
}

// P3: asking, and what answers false, changes nothing: the same calls behind it answer the same.
func TestAskingChangesNothing(t *testing.T) {
	l := made(t, 4, 4)
	takes(t, l, 4)
	takes(t, l, 5)
	takes(t, l, 6)
	gives(t, l, 6, true)
	gives(t, l, 4, true)
	for range 3 {
		isFree(t, l, 4, 6, 7)
		for _, f := range []int{3, 4, 6, 7, 8, -1, math.MaxInt} {
			gives(t, l, f, false)
		}
	}
	if got := drained(t, l); !slices.Equal(got, []int{4, 6, 7}) {
		t.Errorf("%v are taken", got)
	}
	gives(t, l, 5, true)
	takes(t, l, 5)
	takesNone(t, l)
}
