package roots_test

import (
	"math"
	"slices"
	"testing"

	"silhouette/api"
	"silhouette/roots"
)

// odd are numbers about every edge.
var odd = []int{math.MinInt, math.MinInt + 1, math.MinInt32, -1 << 32, -257, -256, -9, -8, -3, -2, -1, 0, 1, 2, 3, 4, 7, 8, 9, 15, 16, 63, 64, 65, 255, 256, 257, math.MaxInt32, 1 << 32, 1<<32 + 1, 1 << 62, math.MaxInt - 1, math.MaxInt}

// plain is what has spaces as the chapter tells it: the roots that have one, in the order of their use, and the space of each.
type plain struct {
	spaces int
	order  []int
	space  map[int]int
}

func newPlain(spaces int) *plain { return &plain{spaces: spaces, space: map[int]int{}} }

// nobodys is the least space that no root has; below 0, if there is none.
func (p *plain) nobodys() int {
	has := make([]bool, p.spaces)
	for _, s := range p.space {
		has[s] = true
	}
	return slices.Index(has, false)
}

func (p *plain) use(g int) (int, bool) {
	s, is := p.space[g]
	taken := false
	if is {
		i := slices.Index(p.order, g)
		p.order = slices.Delete(p.order, i, i+1)
	} else if s = p.nobodys(); s < 0 {
		s, taken = p.space[p.order[0]], true
		delete(p.space, p.order[0])
		p.order = p.order[1:]
	}
	p.order = append(p.order, g)
	p.space[g] = s
	return s, taken
}

// made is one that may be.
func made(t *testing.T, spaces int) *roots.Roots {
	t.Helper()
	r := roots.New(spaces)
	if r == nil {
		t.Fatalf("New(%d) is nil", spaces)
	}
	return r
}

// uses tells if Use of a root is not that space, or tells otherwise whether it was another root's.
func uses(t *testing.T, r *roots.Roots, g, space int, taken bool) {
	t.Helper()
	if s, is := r.Use(g); s != space || is != taken {
		t.Fatalf("Use(%d) is %d, %t, not %d, %t", g, s, is, space, taken)
	}
}

// has tells if Space of a root is not that.
func has(t *testing.T, r *roots.Roots, g, space int) {
	t.Helper()
	if s, is := r.Space(g); s != space || !is {
		t.Fatalf("Space(%d) is %d, %t, not %d", g, s, is, space)
	}
}

// hasNone tells if a root has a space, or Space of it is not zero.
func hasNone(t *testing.T, r *roots.Roots, g int) {
	t.Helper()
	if s, is := r.Space(g); s != 0 || is {
		t.Fatalf("Space(%d) of none is %d, %t", g, s, is)
	}
}

// lists tells if List is not of these, in order.
func lists(t *testing.T, r *roots.Roots, want ...int) {
	t.Helper()
	if l := r.List(); !slices.Equal(l, want) {
		t.Fatalf("List is %v, not %v", l, want)
	}
}

// alike tells where one is not as a plain one: the roots in order, the spaces of these, and none of any other.
func alike(t *testing.T, r *roots.Roots, p *plain, others []int) {
	t.Helper()
	lists(t, r, p.order...)
	for g, s := range p.space {
		has(t, r, g, s)
	}
	for _, g := range others {
		if _, is := p.space[g]; !is {
			hasNone(t, r, g)
		}
	}
}

// step uses a root, of both, and tells where they come out apart.
func step(t *testing.T, r *roots.Roots, p *plain, g int) {
	t.Helper()
	s, taken := p.use(g)
	uses(t, r, g, s, taken)
}

// chain is numbers that hop about, the same ones each time.
type chain uint64

func (c *chain) next(n int) int {
	*c = *c*6364136223846793005 + 1442695040888963407
	return int((*c >> 33) % chain(n))
}

// P18.1, P2: R1, New of 1 to 8 is one in which no root has a space.
func TestNewHasNone(t *testing.T) {
	for spaces := 1; spaces <= api.MaxAsids; spaces++ {
		r := made(t, spaces)
		lists(t, r)
		for _, g := range odd {
			hasNone(t, r, g)
		}
		for g := -20; g <= 300; g++ {
			hasNone(t, r, g)
		}
		lists(t, r)
	}
}

// P18.1: R1, New is nil just if spaces is not 1 to 8.
func TestNewThatMayNotBeIsNil(t *testing.T) {
	for spaces := -300; spaces <= 300; spaces++ {
		if (roots.New(spaces) != nil) != (spaces >= 1 && spaces <= 8) {
			t.Errorf("New(%d) is nil: %t", spaces, roots.New(spaces) == nil)
		}
	}
	for _, spaces := range odd {
		if (roots.New(spaces) != nil) != (spaces >= 1 && spaces <= 8) {
			t.Errorf("New(%d) is nil: %t", spaces, roots.New(spaces) == nil)
		}
	}
}

// P18.1: R2, the chapter's example.
func TestUseTheExample(t *testing.T) {
	r := made(t, 1)
	uses(t, r, 5, 0, false)
	uses(t, r, 5, 0, false)
	uses(t, r, 6, 0, true)
}

// P18.1: R1, R2, one space: it is the root's that was used last, and is told as another's just as it goes over.
func TestOneSpace(t *testing.T) {
	r := made(t, 1)
	last := 0
	for i, g := range []int{7, 7, 7, 3, 3, 7, 0, -1, 0, 0, math.MaxInt, math.MinInt, math.MinInt, 7} {
		uses(t, r, g, 0, i > 0 && g != last)
		lists(t, r, g)
		has(t, r, g, 0)
		if i > 0 && g != last {
			hasNone(t, r, last)
		}
		last = g
	}
}

// P18.1: R2, as long as there are spaces that no root has, they go from the least on, and none is another's: of one root fewer than there are spaces, and of as many.
func TestUseOfAsManyAsThereAre(t *testing.T) {
	for spaces := 1; spaces <= api.MaxAsids; spaces++ {
		r := made(t, spaces)
		var all []int
		for s := range spaces {
			hasNone(t, r, 100-s)
			uses(t, r, 100-s, s, false)
			all = append(all, 100-s)
			lists(t, r, all...)
			for i, g := range all {
				has(t, r, g, i)
			}
			hasNone(t, r, 100-s-1)
		}
	}
}

// P18.1: R2, one root more than there are spaces has the space of the one that was used least lately, and that has it no more; so has the next one, and so on.
func TestUseOfOneMore(t *testing.T) {
	for spaces := 1; spaces <= api.MaxAsids; spaces++ {
		r := made(t, spaces)
		var all []int
		for s := range spaces {
			uses(t, r, 10+s, s, false)
			all = append(all, 10+s)
		}
		for i := range 3 * spaces {
			uses(t, r, 50+i, i%spaces, true)
			hasNone(t, r, all[0])
			has(t, r, 50+i, i%spaces)
			all = append(all[1:], 50+i)
			lists(t, r, all...)
			for k, g := range all {
				has(t, r, g, (i+1+k)%spaces)
			}
		}
	}
}

// P18.1, P18.3: R2, a root that has a space keeps it, and none is told as taken; it is the last one of List then, wherever it was.
func TestUseOfOneThatHasOne(t *testing.T) {
	for spaces := 1; spaces <= api.MaxAsids; spaces++ {
		for many := 1; many <= spaces; many++ {
			for i := range many {
				r := made(t, spaces)
				var all []int
				for s := range many {
					uses(t, r, s-1, s, false)
					all = append(all, s-1)
				}
				uses(t, r, i-1, i, false)
				all = append(slices.Delete(slices.Clone(all), i, i+1), i-1)
				lists(t, r, all...)
				uses(t, r, i-1, i, false)
				lists(t, r, all...)
				for s := range many {
					has(t, r, s-1, s)
				}
			}
		}
	}
}

// P18.1: R2, a use of a root that has a space is no use of that space by another: the next least space that no root has is the same.
func TestUseTwiceLeavesRoom(t *testing.T) {
	r := made(t, 3)
	uses(t, r, 5, 0, false)
	for range 5 {
		uses(t, r, 5, 0, false)
	}
	uses(t, r, 6, 1, false)
	uses(t, r, 5, 0, false)
	uses(t, r, 6, 1, false)
	lists(t, r, 5, 6)
	uses(t, r, 7, 2, false)
	lists(t, r, 5, 6, 7)
	uses(t, r, 8, 0, true)
	lists(t, r, 6, 7, 8)
}

// P18.1, P18.3: R2, whose space is taken hangs on the last use of each root, not on its first one, nor on how often it was used, on its number, or on its space's.
func TestUseTakesThatOfTheLeastLately(t *testing.T) {
	r := made(t, 3)
	uses(t, r, 1, 0, false)
	uses(t, r, 2, 1, false)
	uses(t, r, 3, 2, false)
	uses(t, r, 2, 1, false)
	uses(t, r, 2, 1, false)
	uses(t, r, 1, 0, false)
	uses(t, r, 9, 2, true) // 3 was used once, last of the first three
	lists(t, r, 2, 1, 9)
	uses(t, r, 8, 1, true) // 2 was used three times
	lists(t, r, 1, 9, 8)
	uses(t, r, 9, 2, false)
	uses(t, r, 7, 0, true)
	lists(t, r, 8, 9, 7)
	has(t, r, 8, 1)
	has(t, r, 9, 2)
	has(t, r, 7, 0)
	for _, g := range []int{0, 1, 2, 3, 4, 5, 6, 10} {
		hasNone(t, r, g)
	}
}

// P18.1: R2, for each place in the order of use: the root that stands there, used again, goes behind all others, and the next ones' spaces are taken in the order that is left.
func TestUseAgainSavesASpace(t *testing.T) {
	for spaces := 2; spaces <= api.MaxAsids; spaces++ {
		for i := range spaces {
			r := made(t, spaces)
			var order []int
			for s := range spaces {
				uses(t, r, s, s, false)
				order = append(order, s)
			}
			uses(t, r, i, i, false)
			order = append(slices.Delete(order, i, i+1), i)
			for k, s := range order {
				uses(t, r, 100+k, s, true)
				hasNone(t, r, s)
			}
		}
	}
}

// P18.1: R2, a root whose space was taken has one again when it is used: that of the least lately used one, not its own of then.
func TestUseOfOneWhoseSpaceWasTaken(t *testing.T) {
	r := made(t, 2)
	uses(t, r, 5, 0, false)
	uses(t, r, 6, 1, false)
	uses(t, r, 7, 0, true)
	hasNone(t, r, 5)
	lists(t, r, 6, 7)
	uses(t, r, 5, 1, true)
	hasNone(t, r, 6)
	has(t, r, 5, 1)
	lists(t, r, 7, 5)
	uses(t, r, 5, 1, false)
	uses(t, r, 6, 0, true)
	lists(t, r, 5, 6)
	uses(t, r, 7, 1, true)
	uses(t, r, 7, 1, false)
	lists(t, r, 6, 7)
}

// P18.1, P1: the roots 0 and below 0, and the greatest and least numbers, are roots like any other, in every order, and no two of them are one.
func TestRootsOfAllNumbers(t *testing.T) {
	for spaces := 1; spaces <= api.MaxAsids; spaces++ {
		for from := range odd {
			r, p := made(t, spaces), newPlain(spaces)
			for i := range odd {
				step(t, r, p, odd[(from+i)%len(odd)])
				alike(t, r, p, odd)
				step(t, r, p, odd[(from+i)%len(odd)])
				alike(t, r, p, odd)
			}
		}
	}
}

// P18.1: a first root of 0 has a space just when it is used, and takes none from anybody.
func TestRootZero(t *testing.T) {
	for spaces := 1; spaces <= api.MaxAsids; spaces++ {
		r := made(t, spaces)
		hasNone(t, r, 0)
		uses(t, r, 0, 0, false)
		has(t, r, 0, 0)
		lists(t, r, 0)
		uses(t, r, 0, 0, false)
		for g := 1; g < spaces; g++ {
			uses(t, r, g, g, false)
		}
		has(t, r, 0, 0)
		uses(t, r, spaces, 0, true)
		hasNone(t, r, 0)
	}
}

// used is a root that was used, and what space that told.
type used struct{ g, space int }

// lastOnes are the last uses of as many roots as there may be, the last one first, of all uses.
func lastOnes(all []used, many int) []used {
	var l []used
	for _, u := range slices.Backward(all) {
		if len(l) < many && !slices.ContainsFunc(l, func(o used) bool { return o.g == u.g }) {
			l = append(l, u)
		}
	}
	return l
}

// keeps tells where P18.2 and P18.3 do not hold behind these uses: spaces are told of those that were used last, as their last use told them, no two of one, and of no other root.
func keeps(t *testing.T, r *roots.Roots, spaces int, all []used, others []int) {
	t.Helper()
	last := lastOnes(all, spaces)
	var order []int
	seen := make([]bool, spaces)
	for _, u := range last {
		has(t, r, u.g, u.space)
		if u.space < 0 || u.space >= spaces || seen[u.space] {
			t.Fatalf("the space %d of %d is none, or another root's, too: %v", u.space, u.g, last)
		}
		seen[u.space] = true
		order = append(order, u.g)
	}
	slices.Reverse(order)
	lists(t, r, order...)
	for _, g := range others {
		if !slices.Contains(order, g) {
			hasNone(t, r, g)
		}
	}
}

// P18.1, P18.2, P18.3: all short runs of Uses, of few spaces and a root or two more.
func TestAllShortRuns(t *testing.T) {
	for _, c := range []struct{ spaces, roots, steps int }{{1, 3, 7}, {2, 4, 7}, {3, 5, 6}, {4, 5, 6}} {
		which := []int{0, -1, math.MaxInt, 7, math.MinInt}[:c.roots]
		runs := 1
		for range c.steps {
			runs *= c.roots
		}
		for run := range runs {
			r, p := roots.New(c.spaces), newPlain(c.spaces)
			var all []used
			for n, rest := 0, run; n < c.steps; n, rest = n+1, rest/c.roots {
				g := which[rest%c.roots]
				step(t, r, p, g)
				s, _ := r.Space(g)
				all = append(all, used{g, s})
			}
			alike(t, r, p, which)
			keeps(t, r, c.spaces, all, which)
		}
	}
}

// P18.1, P18.2, P18.3: long runs, of each number of spaces and of as many roots, one fewer, one more, and many, held against a plain list of roots in the order of their use.
func TestLongRuns(t *testing.T) {
	c := chain(18)
	for spaces := 1; spaces <= api.MaxAsids; spaces++ {
		for _, many := range []int{max(1, spaces-1), spaces, spaces + 1, spaces + 2, 2 * spaces, 40} {
			r, p := made(t, spaces), newPlain(spaces)
			var which []int
			for i := range many {
				which = append(which, i-many/2)
			}
			var all []used
			for range 400 {
				g := which[c.next(many)]
				step(t, r, p, g)
				alike(t, r, p, which)
				s, _ := r.Space(g)
				all = append(all, used{g, s})
				keeps(t, r, spaces, all, which)
			}
		}
	}
}

// P18.1, P18.3: a run of so many uses that a count of few bits would have gone round, in which one root is used time and again.
func TestVeryLongRun(t *testing.T) {
	for _, spaces := range []int{1, 2, 3, 8} {
		r, p := made(t, spaces), newPlain(spaces)
		for i := range 150_000 {
			step(t, r, p, i%(2*spaces+1))
			step(t, r, p, -5)
		}
		alike(t, r, p, []int{-5, 0, 1, 2, 3, 4, 5, 6, 7, 8, 9, 10, 11, 12, 13, 14, 15, 16, 17})
	}
}

// P1: every call ends and none panics, at all arguments, whether no root, some, or as many as may have a space.
func TestNothingPanics(t *testing.T) {
	for _, spaces := range odd {
		r := roots.New(spaces)
		if r == nil {
			continue
		}
		for range 2 {
			for _, g := range odd {
				r.Space(g)
				r.List()
				r.Use(g)
				r.Space(g)
			}
		}
		if l := r.List(); len(l) != spaces {
			t.Errorf("of %d spaces %d are roots'", spaces, len(l))
		}
	}
}

// P3: Space and List change nothing: uses with them between come out as uses without them, and asking again answers the same.
func TestAskingChangesNothing(t *testing.T) {
	c := chain(7)
	for spaces := 1; spaces <= api.MaxAsids; spaces++ {
		asked, quiet := made(t, spaces), made(t, spaces)
		for range 200 {
			g := c.next(spaces + 3)
			s, taken := quiet.Use(g)
			uses(t, asked, g, s, taken)
			was := asked.List()
			for g := range spaces + 5 {
				one, is := asked.Space(g)
				if again, isStill := asked.Space(g); again != one || isStill != is {
					t.Fatalf("Space(%d) is %d, %t, and then %d, %t", g, one, is, again, isStill)
				}
				lists(t, asked, was...)
			}
		}
		lists(t, asked, quiet.List()...)
	}
}

// P3: what is listed is new memory, its spare room too: to write to it changes neither what has spaces nor another list.
func TestListIsNewMemory(t *testing.T) {
	for spaces := 1; spaces <= api.MaxAsids; spaces++ {
		r := made(t, spaces)
		for many := range spaces + 2 {
			p := newPlain(spaces)
			for g := range many {
				p.use(g)
			}
			l, other := r.List(), r.List()
			for i := range l {
				l[i] = -99
			}
			for i, more := range [][]int{l[:cap(l)], append(l, -98)} {
				for k := range more {
					more[k] = -90 - i
				}
			}
			if !slices.Equal(other, p.order) {
				t.Fatalf("another list is %v, not %v", other, p.order)
			}
			alike(t, r, p, []int{-99, -98, -91, -90})
			r.Use(many)
		}
	}
}

// P3: a list is not changed by what is used behind it.
func TestListStaysAsItWas(t *testing.T) {
	r := made(t, 3)
	for _, g := range []int{1, 2, 3} {
		r.Use(g)
	}
	l := r.List()
	for _, g := range []int{2, 4, 5, 6, 7} {
		r.Use(g)
	}
	if !slices.Equal(l, []int{1, 2, 3}) {
		t.Errorf("the list is %v now", l)
	}
}

// P3: what one answers hangs on the calls on it alone, not on those on another one.
func TestTheyAreApart(t *testing.T) {
	a, b := made(t, 2), made(t, 2)
	uses(t, a, 5, 0, false)
	lists(t, b)
	hasNone(t, b, 5)
	uses(t, b, 6, 0, false)
	uses(t, b, 5, 1, false)
	uses(t, a, 6, 1, false)
	uses(t, a, 7, 0, true)
	lists(t, a, 6, 7)
	lists(t, b, 6, 5)
	has(t, b, 5, 1)
	hasNone(t, b, 7)
	uses(t, b, 8, 0, true)
	has(t, a, 6, 1)
	has(t, a, 7, 0)
}
