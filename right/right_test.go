package right_test

import (
	"math"
	"slices"
	"testing"

	"silhouette/api"
	"silhouette/right"
)

// The eight rights, by what they permit.
var (
	none = api.Right{}
	w    = api.Right{W: true}
	u    = api.Right{U: true}
	x    = api.Right{X: true}
	wu   = api.Right{W: true, U: true}
	wx   = api.Right{W: true, X: true}
	ux   = api.Right{U: true, X: true}
	wux  = api.Right{W: true, U: true, X: true}
)

// both are what a bool may be.
var both = []bool{false, true}

// kinds are those that there are, noKinds are numbers about every edge that are none.
var (
	kinds   = []int{0, 1, 2}
	noKinds = []int{math.MinInt, math.MinInt + 1, math.MinInt + 2, math.MinInt32, -1 << 32, -1<<32 + 1, -1<<32 + 2, -258, -257, -256, -255, -254, -4, -3, -2, -1, 3, 4, 5, 6, 7, 8, 16, 255, 256, 257, 258, 1 << 16, 1<<16 + 1, math.MaxInt32, 1 << 32, 1<<32 + 1, 1<<32 + 2, 1 << 62, 1<<62 + 1, math.MaxInt - 1, math.MaxInt}
)

// rights are all eight.
func rights() []api.Right { return []api.Right{none, w, u, x, wu, wx, ux, wux} }

// entries are those of each set of flags, bad and not, of few frames.
func entries() []api.Pte {
	var l []api.Pte
	for n := range 256 {
		is := func(i int) bool { return n>>i&1 == 1 }
		for _, f := range []int{0, 1, 5, 1<<20 - 1, 1 << 20, -1, math.MinInt, math.MaxInt} {
			l = append(l, api.Pte{P: is(0), W: is(1), U: is(2), A: is(3), D: is(4), PS: is(5), NX: is(6), Bad: is(7), Frame: f})
		}
	}
	return l
}

// bits are what a right permits, as a number: W 1, U 2, X 4.
func bits(r api.Right) int {
	n := 0
	if r.W {
		n |= 1
	}
	if r.U {
		n |= 2
	}
	if r.X {
		n |= 4
	}
	return n
}

// met is what all of some permit, as the chapter tells it.
func met(l []api.Right) api.Right {
	n := 7
	for _, r := range l {
		n &= bits(r)
	}
	return api.Right{W: n&1 != 0, U: n&2 != 0, X: n&4 != 0}
}

// isUnder: does b permit all that a does, as the chapter tells it?
func isUnder(a, b api.Right) bool { return bits(a)&^bits(b) == 0 }

// may: is an access permitted, as the chapter tells it?
func may(r api.Right, kind int, user bool) bool {
	switch {
	case kind < 0 || kind > 2, user && !r.U, kind == 1 && !r.W, kind == 2 && !r.X:
		return false
	}
	return true
}

// isOf tells if Of is not that.
func isOf(t *testing.T, p api.Pte, want api.Right) {
	t.Helper()
	if got := right.Of(p); got != want {
		t.Fatalf("Of(%+v) is %+v, not %+v", p, got, want)
	}
}

// isMeet tells if Meet is not that.
func isMeet(t *testing.T, want api.Right, l ...api.Right) {
	t.Helper()
	if got := right.Meet(l...); got != want {
		t.Fatalf("Meet(%+v) is %+v, not %+v", l, got, want)
	}
}

// isMay tells if May is not that.
func isMay(t *testing.T, r api.Right, kind int, user, want bool) {
	t.Helper()
	if got := right.May(r, kind, user); got != want {
		t.Fatalf("May(%+v, %d, %t) is %t, not %t", r, kind, user, got, want)
	}
}

// isCode tells if Code is not that.
func isCode(t *testing.T, kind int, user, there, bad bool, want int) {
	t.Helper()
	if got := right.Code(kind, user, there, bad); got != want {
		t.Fatalf("Code(%d, %t, %t, %t) is %d, not %d", kind, user, there, bad, got, want)
	}
}

// P6.1: F1, Of entries with each of W, U and NX alone, with none, with several, and with all fields.
func TestOfFew(t *testing.T) {
	isOf(t, api.Pte{}, x)
	isOf(t, api.Pte{W: true}, wx)
	isOf(t, api.Pte{U: true}, ux)
	isOf(t, api.Pte{NX: true}, none)
	isOf(t, api.Pte{W: true, U: true}, wux)
	isOf(t, api.Pte{W: true, NX: true}, w)
	isOf(t, api.Pte{U: true, NX: true}, u)
	isOf(t, api.Pte{W: true, U: true, NX: true}, wu)
	isOf(t, api.Pte{P: true, W: true, U: true}, wux)
	isOf(t, api.Pte{P: true, W: true, U: true, A: true, D: true, PS: true, NX: true, Bad: true, Frame: 1<<20 - 1}, wu)
}

// P6.1: F1, Of what is not told by W, U and NX: each other field alone changes nothing.
func TestOfOtherFields(t *testing.T) {
	for _, p := range []api.Pte{{P: true}, {A: true}, {D: true}, {PS: true}, {Bad: true}, {Frame: 1}, {Frame: -1}, {Frame: math.MinInt}, {Frame: math.MaxInt}} {
		isOf(t, p, x)
		p.W, p.U, p.NX = true, true, true
		isOf(t, p, wu)
	}
}

// P6.1: F1, Of entries of each set of flags.
func TestOfMany(t *testing.T) {
	for _, p := range entries() {
		isOf(t, p, api.Right{W: p.W, U: p.U, X: !p.NX})
	}
}

// P6.1: F1, All is all three.
func TestAll(t *testing.T) {
	if got := right.All(); got != wux {
		t.Errorf("All is %+v", got)
	}
}

// P6.1: F1, Meet of none, of a nil, and of an empty list is all.
func TestMeetOfNone(t *testing.T) {
	isMeet(t, wux)
	isMeet(t, wux, nil...)
	isMeet(t, wux, []api.Right{}...)
	isMeet(t, wux, make([]api.Right, 0, 8)...)
}

// P6.1: F1, Meet of one, and of the same many times, is that.
func TestMeetOfTheSame(t *testing.T) {
	for _, r := range rights() {
		isMeet(t, r, r)
		isMeet(t, r, r, r)
		isMeet(t, r, r, r, r)
		isMeet(t, r, slices.Repeat([]api.Right{r}, 1000)...)
	}
}

// P6.1: F1, Meet of few.
func TestMeetOfFew(t *testing.T) {
	isMeet(t, u, wu, ux)
	isMeet(t, w, wu, wx)
	isMeet(t, x, wx, ux)
	isMeet(t, none, w, x)
	isMeet(t, none, w, u)
	isMeet(t, none, u, x)
	isMeet(t, none, wu, wx, ux)
	isMeet(t, none, wux, none)
	isMeet(t, u, wux, wu, ux, wux)
}

// P6.1: F1, Meet of all pairs, of all threes, and of all fours: whatever their order.
func TestMeetOfSeveral(t *testing.T) {
	for _, a := range rights() {
		for _, b := range rights() {
			isMeet(t, met([]api.Right{a, b}), a, b)
			for _, c := range rights() {
				isMeet(t, met([]api.Right{a, b, c}), a, b, c)
				for _, d := range rights() {
					isMeet(t, met([]api.Right{a, b, c, d}), a, b, c, d)
				}
			}
		}
	}
}

// P6.1: F1, Meet of a long list of all, with one that is less at any place.
func TestMeetOfOneThatIsLess(t *testing.T) {
	for _, r := range rights() {
		for i := range 50 {
			l := slices.Repeat([]api.Right{wux}, 50)
			l[i] = r
			isMeet(t, r, l...)
		}
	}
}

// P6.1: F1, Under of all 64 pairs.
func TestUnder(t *testing.T) {
	under := 0
	for _, a := range rights() {
		for _, b := range rights() {
			got := right.Under(a, b)
			if got != isUnder(a, b) {
				t.Errorf("Under(%+v, %+v) is %t", a, b, got)
			}
			if got {
				under++
			}
		}
	}
	if under != 27 { // each of the three is in neither, in the second alone, or in both
		t.Errorf("%d pairs are under", under)
	}
	if !right.Under(u, wu) || right.Under(wu, u) || right.Under(wu, ux) || !right.Under(wu, wu) || !right.Under(none, none) || !right.Under(none, x) || right.Under(x, none) {
		t.Error("few pairs are told otherwise")
	}
}

// P6.2: a meet is under each of them, and just what is under each of them is under it.
func TestMeetIsTheMostUnderEach(t *testing.T) {
	for _, a := range rights() {
		for _, b := range rights() {
			for _, c := range rights() {
				m := right.Meet(a, b, c)
				if !right.Under(m, a) || !right.Under(m, b) || !right.Under(m, c) {
					t.Fatalf("%+v is not under each of %+v, %+v and %+v", m, a, b, c)
				}
				for _, r := range rights() {
					each := right.Under(r, a) && right.Under(r, b) && right.Under(r, c)
					if right.Under(r, m) != each {
						t.Fatalf("%+v is under each of %+v, %+v and %+v: %t; under their meet: %t", r, a, b, c, each, !each)
					}
				}
			}
		}
	}
}

// P6.2: of none, every right is under the meet; of one, those that are under it.
func TestMeetOfNoneAndOneIsTheMost(t *testing.T) {
	for _, r := range rights() {
		if !right.Under(r, right.Meet()) {
			t.Errorf("%+v is not under the meet of none", r)
		}
		for _, a := range rights() {
			if right.Under(r, right.Meet(a)) != right.Under(r, a) {
				t.Errorf("%+v is under one of %+v and its meet alone", r, a)
			}
		}
	}
}

// P6.1: F2, May of each kind, for a user and for none, with all eight rights; the examples of the chapter and the document among them.
func TestMay(t *testing.T) {
	for _, c := range []struct {
		kind int
		user bool
		by   []api.Right
	}{
		{api.Load, false, []api.Right{none, w, u, x, wu, wx, ux, wux}},
		{api.Load, true, []api.Right{u, wu, ux, wux}},
		{api.Store, false, []api.Right{w, wu, wx, wux}},
		{api.Store, true, []api.Right{wu, wux}},
		{api.Exec, false, []api.Right{x, wx, ux, wux}},
		{api.Exec, true, []api.Right{ux, wux}},
	} {
		for _, r := range rights() {
			isMay(t, r, c.kind, c.user, slices.Contains(c.by, r))
			isMay(t, r, c.kind, c.user, may(r, c.kind, c.user))
		}
	}
}

// P6.1, P1: F2, May of what is no kind is false, whatever the rights are.
func TestMayOfNoKind(t *testing.T) {
	for _, kind := range noKinds {
		for _, r := range rights() {
			isMay(t, r, kind, false, false)
			isMay(t, r, kind, true, false)
		}
	}
	for kind := -1000; kind < 1000; kind++ {
		if kind < 0 || kind > 2 {
			isMay(t, wux, kind, false, false)
			isMay(t, wux, kind, true, false)
		}
	}
}

// P6.3: what one may, one that it is under may.
func TestWhatIsMoreMayMore(t *testing.T) {
	for _, kind := range append(slices.Clone(kinds), noKinds...) {
		for _, user := range both {
			for _, a := range rights() {
				for _, b := range rights() {
					if right.Under(a, b) && right.May(a, kind, user) && !right.May(b, kind, user) {
						t.Errorf("%+v may the kind %d, a user: %t; %+v may not", a, kind, user, b)
					}
				}
			}
		}
	}
}

// P6.3: a meet may just what each of them may.
func TestMeetMayWhatEachMay(t *testing.T) {
	for _, kind := range kinds {
		for _, user := range both {
			for _, a := range rights() {
				for _, b := range rights() {
					isMay(t, right.Meet(a, b), kind, user, right.May(a, kind, user) && right.May(b, kind, user))
				}
			}
		}
	}
}

// P6.1: F2, Code of each kind, for a user and for none, there and not, bad and not; the document's examples among them.
func TestCode(t *testing.T) {
	for _, c := range []struct {
		kind  int
		codes [8]int // of none and not there; bad; there; both; and the same of a user
	}{
		{api.Load, [8]int{0, 0, 1, 9, 4, 4, 5, 13}},
		{api.Store, [8]int{2, 2, 3, 11, 6, 6, 7, 15}},
		{api.Exec, [8]int{16, 16, 17, 25, 20, 20, 21, 29}},
	} {
		i := 0
		for _, user := range both {
			for _, there := range both {
				for _, bad := range both {
					isCode(t, c.kind, user, there, bad, c.codes[i])
					i++
				}
			}
		}
	}
}

// P6.1, P1: F2, Code of what is no kind has neither CodeW nor CodeX.
func TestCodeOfNoKind(t *testing.T) {
	for _, kind := range noKinds {
		isCode(t, kind, false, false, false, 0)
		isCode(t, kind, false, false, true, 0)
		isCode(t, kind, false, true, false, 1)
		isCode(t, kind, false, true, true, 9)
		isCode(t, kind, true, false, false, 4)
		isCode(t, kind, true, false, true, 4)
		isCode(t, kind, true, true, false, 5)
		isCode(t, kind, true, true, true, 13)
	}
}

// P3: a list that is handed to Meet is not changed, nor its spare room, nor what lies ahead of it.
func TestMeetLeavesItsList(t *testing.T) {
	for first := range 9 {
		for last := first; last <= 8; last++ {
			l := slices.Concat(rights(), []api.Right{wu, ux})
			kept := slices.Clone(l)
			isMeet(t, met(kept[first:last]), l[first:last]...)
			if !slices.Equal(l, kept) {
				t.Fatalf("Meet of the places %d to %d of %+v has made it %+v", first, last, kept, l)
			}
		}
	}
}

// P3: Meet keeps no list: what is changed in one later changes no answer.
func TestMeetKeepsNoList(t *testing.T) {
	l := []api.Right{wu, ux}
	before := right.Meet(l...)
	l[0], l[1] = none, none
	isMeet(t, none, l...)
	isMeet(t, u, wu, ux)
	isMeet(t, wux)
	if before != u {
		t.Errorf("an answer of Meet has become %+v", before)
	}
}

// P3: All is the same again, whatever was done with what it answered.
func TestAllIsNew(t *testing.T) {
	a := right.All()
	a.W, a.U, a.X = false, false, false
	if right.All() != wux {
		t.Errorf("All is %+v", right.All())
	}
	isMeet(t, wux)
}

// P3: the same call answers the same again, whatever was called between.
func TestCallsAreApart(t *testing.T) {
	l := entries()
	all := append(slices.Clone(kinds), noKinds...)
	for i, p := range l {
		r, kind, user, there := right.Of(p), all[i%len(all)], i%3 == 0, i%5 < 2
		can, code := right.May(r, kind, user), right.Code(kind, user, there, p.Bad)
		o := right.Of(l[len(l)-1-i])
		right.May(o, all[(i+7)%len(all)], !user)
		right.Code(all[(i+7)%len(all)], !user, !there, !p.Bad)
		right.Under(o, r)
		right.Meet(o, r)
		right.All()
		isOf(t, p, r)
		isMay(t, r, kind, user, can)
		isMay(t, r, kind, user, may(r, kind, user))
		isCode(t, kind, user, there, p.Bad, code)
	}
}

// P1, P2: every call ends and none panics, at all arguments; a code is none but of its own parts, and R is of none without P.
func TestNothingPanics(t *testing.T) {
	for _, p := range entries() {
		right.Of(p)
	}
	isMeet(t, none, slices.Repeat(rights(), 100000)...)
	for _, kind := range append(slices.Clone(kinds), noKinds...) {
		for _, user := range both {
			for _, r := range rights() {
				right.May(r, kind, user)
			}
			for _, there := range both {
				for _, bad := range both {
					c := right.Code(kind, user, there, bad)
					if c < 0 || c > 31 || c&api.CodeR != 0 && c&api.CodeP == 0 {
						t.Fatalf("Code(%d, %t, %t, %t) is %d", kind, user, there, bad, c)
					}
				}
			}
		}
	}
}
