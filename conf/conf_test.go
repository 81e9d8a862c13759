package conf_test

import (
	"math"
	"slices"
	"testing"

	"silhouette/api"
	"silhouette/conf"
)

// odd are numbers about every edge, and such as are too large to be added.
var odd = []int{math.MinInt, math.MinInt + 1, math.MinInt + 8, -1 << 62, math.MinInt32, -1 << 32, -1<<32 + 4, -512, -257, -256, -255, -65, -64, -9, -8, -2, -1, 0, 1, 2, 3, 4, 5, 7, 8, 9, 10, 62, 63, 64, 65, 66, 128, 254, 255, 256, 257, 258, 511, 512, 65536, math.MaxInt32, 1 << 31, 1<<32 - 1, 1 << 32, 1<<32 + 1, 1<<32 + 4, 1 << 62, math.MaxInt - 255, math.MaxInt - 2, math.MaxInt - 1, math.MaxInt}

// base is one that is right.
func base() api.Conf {
	return api.Conf{Host: 10, Map: []int{5, 1}, First: 2, Many: 2, Tlb: 4, Asids: 2, Root: 1}
}

// field is one of a machine's numbers.
type field struct {
	name string
	at   func(c *api.Conf) *int
}

// fields are all of them.
func fields() []field {
	return []field{
		{"Host", func(c *api.Conf) *int { return &c.Host }},
		{"First", func(c *api.Conf) *int { return &c.First }},
		{"Many", func(c *api.Conf) *int { return &c.Many }},
		{"Tlb", func(c *api.Conf) *int { return &c.Tlb }},
		{"Asids", func(c *api.Conf) *int { return &c.Asids }},
		{"Root", func(c *api.Conf) *int { return &c.Root }},
	}
}

// isShadow: is a frame one from First on, of Many?
func isShadow(c api.Conf, f int) bool { return f >= c.First && f-c.First < c.Many }

// right tells whether one is so, as the chapters do, without the layers below.
func right(c api.Conf) bool {
	if len(c.Map) < 1 || len(c.Map) > 64 || c.Host < 1 || c.Host > 256 {
		return false
	}
	if c.First < 0 || c.First > c.Host || c.Many < 0 || c.Many > c.Host || c.First+c.Many > c.Host {
		return false
	}
	for i, h := range c.Map {
		if h < 0 || h >= c.Host || slices.Contains(c.Map[:i], h) || isShadow(c, h) {
			return false
		}
	}
	return c.Tlb >= 1 && c.Tlb <= 64 && c.Asids >= 1 && c.Asids <= 8 && c.Root >= 0 && c.Root <= 255
}

// kinds are the frames of one that is right, by whose they are; none of one that is not.
func kinds(c api.Conf) (image []int, shadow []int, foreign []int) {
	if !right(c) {
		return nil, nil, nil
	}
	for f := range c.Host {
		switch {
		case slices.Contains(c.Map, f):
			image = append(image, f)
		case isShadow(c, f):
			shadow = append(shadow, f)
		default:
			foreign = append(foreign, f)
		}
	}
	return image, shadow, foreign
}

// isAs tells where conf answers otherwise than the plain ones.
func isAs(t *testing.T, c api.Conf) {
	t.Helper()
	if is := conf.Right(c); is != right(c) {
		t.Fatalf("Right(%v) is %t", c, is)
	}
	image, _, foreign := kinds(c)
	if got := conf.Image(c); !slices.Equal(got, image) {
		t.Fatalf("Image(%v) is %v, not %v", c, got, image)
	}
	if got := conf.Foreign(c); !slices.Equal(got, foreign) {
		t.Fatalf("Foreign(%v) is %v, not %v", c, got, foreign)
	}
}

// says holds what is told of one against what is written there, and against the plain ones.
func says(t *testing.T, c api.Conf, want bool) {
	t.Helper()
	if is := conf.Right(c); is != want {
		t.Errorf("Right(%v) is %t", c, is)
	}
	if image, foreign := conf.Image(c), conf.Foreign(c); !want && len(image)+len(foreign) != 0 {
		t.Errorf("%v is not right, but has %v and %v", c, image, foreign)
	}
	isAs(t, c)
}

// from is the numbers from first on, as many, each by step more than the last.
func from(first, many, step int) []int {
	l := make([]int, many)
	for i := range l {
		l[i] = first + i*step
	}
	return l
}

// swapped is l, backwards.
func swapped(l []int) []int {
	l = slices.Clone(l)
	slices.Reverse(l)
	return l
}

// of is the base, of that host, map, First and Many.
func of(host int, l []int, first, many int) api.Conf {
	c := base()
	c.Host, c.Map, c.First, c.Many = host, l, first, many
	return c
}

// rights are some that are right.
func rights() []api.Conf {
	return []api.Conf{
		base(), of(8, []int{5, 1}, 2, 3), of(1, []int{0}, 0, 0), of(1, []int{0}, 1, 0), of(2, []int{0}, 1, 1), of(2, []int{1}, 0, 1), of(2, []int{1, 0}, 0, 0),
		of(3, []int{2, 0}, 1, 1), of(256, []int{255}, 0, 255), of(256, []int{0}, 1, 255), of(256, []int{9, 7, 8}, 200, 56), of(256, []int{9, 7, 8}, 256, 0),
		of(64, from(0, 64, 1), 64, 0), of(64, swapped(from(0, 64, 1)), 0, 0), of(67, from(3, 64, 1), 0, 3), of(67, swapped(from(0, 64, 1)), 64, 3), of(256, from(3, 64, 4), 0, 3), of(256, swapped(from(1, 64, 4)), 2, 3),
		of(256, from(0, 64, 3), 190, 66), of(100, []int{50, 3, 99, 0, 20}, 51, 48),
	}
}

// P13.1, P13.2: M1, whose the frames of some are, told here one by one.
func TestWhoseFramesAre(t *testing.T) {
	for _, x := range []struct {
		c              api.Conf
		image, foreign []int
	}{
		{of(8, []int{5, 1}, 2, 3), []int{1, 5}, []int{0, 6, 7}},
		{of(8, []int{1, 5}, 2, 3), []int{1, 5}, []int{0, 6, 7}},
		{of(8, []int{7, 0, 3}, 1, 2), []int{0, 3, 7}, []int{4, 5, 6}},
		{of(8, []int{7, 0, 3}, 1, 0), []int{0, 3, 7}, []int{1, 2, 4, 5, 6}},
		{of(8, []int{0}, 1, 7), []int{0}, nil},
		{of(8, []int{7}, 0, 7), []int{7}, nil},
		{of(8, []int{7}, 0, 6), []int{7}, []int{6}},
		{of(1, []int{0}, 0, 0), []int{0}, nil},
		{of(2, []int{1}, 2, 0), []int{1}, []int{0}},
		{of(4, []int{3, 1, 0, 2}, 4, 0), []int{0, 1, 2, 3}, nil},
		{of(6, []int{5, 3, 1}, 2, 1), []int{1, 3, 5}, []int{0, 4}},
	} {
		says(t, x.c, true)
		if got := conf.Image(x.c); !slices.Equal(got, x.image) {
			t.Errorf("Image(%v) is %v", x.c, got)
		}
		if got := conf.Foreign(x.c); !slices.Equal(got, x.foreign) {
			t.Errorf("Foreign(%v) is %v", x.c, got)
		}
	}
	for _, c := range rights() {
		says(t, c, true)
	}
}

// P13.1: the chapter's example, a Map and First that meet: in First's first and last, at any place of the Map, and no further.
func TestAMapAndFirstThatMeet(t *testing.T) {
	for _, meet := range []struct {
		f    int
		want bool
	}{{3, true}, {4, false}, {5, false}, {6, false}, {7, true}} {
		for _, l := range [][]int{{meet.f}, {meet.f, 0}, {0, meet.f}, {9, meet.f, 1}, {2, 1, 0, 9, meet.f}} {
			says(t, of(10, l, 4, 3), meet.want)
		}
	}
	for f := range 256 {
		says(t, of(256, []int{f}, 128, 1), f != 128)
		says(t, of(256, []int{f}, 0, 255), f == 255)
		says(t, of(256, []int{f}, 1, 255), f == 0)
		says(t, of(256, []int{f}, 0, 256), false)
	}
}

// P13.1: with no frames for shadow pages, no Map meets First, wherever that is, up to Host.
func TestNoFramesForShadowPages(t *testing.T) {
	for _, host := range []int{1, 2, 10, 64, 255, 256} {
		for first := range host + 1 {
			says(t, of(host, []int{0}, first, 0), true)
			says(t, of(host, []int{host - 1}, first, 0), true)
			says(t, of(host, []int{min(first, host-1)}, first, 0), true)
		}
		says(t, of(host, []int{0}, host+1, 0), false)
		says(t, of(host, []int{0}, -1, 0), false)
	}
}

// P13.1: First and Many end just at Host, and one above it.
func TestFirstAndManyEndAtHost(t *testing.T) {
	for _, host := range []int{2, 3, 10, 64, 255, 256} {
		for first := 1; first <= host; first++ {
			says(t, of(host, []int{0}, first, host-first), true)
			says(t, of(host, []int{0}, first, host-first+1), false)
			says(t, of(host, []int{0}, first+1, host-first), false)
		}
		says(t, of(host, []int{host - 1}, 0, host-1), true)
		says(t, of(host, []int{host - 1}, 0, host), false)
		says(t, of(host, []int{host - 1}, 0, host+1), false)
		says(t, of(host, []int{host - 1}, -1, host), false)
		says(t, of(host, []int{host - 1}, 0, -1), false)
	}
}

// P13.1: First and Many that are too large to be added, or below 0, or of which only the sum may be.
func TestFirstAndManyOfAllKinds(t *testing.T) {
	for _, first := range odd {
		for _, many := range odd {
			for _, host := range []int{1, 10, 255, 256} {
				isAs(t, of(host, []int{0}, first, many))
				isAs(t, of(host, []int{host - 1}, first, many))
			}
		}
	}
	for _, c := range [][2]int{{math.MaxInt, math.MaxInt}, {math.MaxInt, 1}, {1, math.MaxInt}, {math.MinInt, math.MinInt}, {math.MinInt, math.MaxInt}, {math.MaxInt, math.MinInt}, {1 << 62, 1 << 62}, {-1 << 62, 1 << 62}, {1 << 62, -1 << 62}, {8, -4}, {-4, 8}} {
		says(t, of(10, []int{9}, c[0], c[1]), false)
		says(t, of(256, []int{9}, c[0], c[1]), false)
	}
}

// P13.1: a Map has 1 to MaxGuest frames, of the host's, no two the same.
func TestMaps(t *testing.T) {
	says(t, of(256, nil, 200, 3), false)
	says(t, of(256, []int{}, 200, 3), false)
	says(t, of(256, make([]int, 0, 8), 200, 3), false)
	for many := 1; many <= 80; many++ {
		says(t, of(256, from(0, many, 1), 200, 3), many <= 64)
		says(t, of(256, swapped(from(0, many, 2)), 200, 56), many <= 64)
	}
	says(t, of(256, from(0, 257, 1), 256, 0), false)
	says(t, of(256, from(0, 5000, 1), 256, 0), false)
	says(t, of(256, make([]int, 2), 200, 3), false)
	says(t, of(256, make([]int, 64), 200, 3), false)
	for _, l := range [][]int{{5, 5}, {5, 1, 5}, {1, 5, 5}, {5, 5, 1}, {9, 8, 0, 9}, append(from(0, 63, 1), 0), append(from(0, 63, 1), 62)} {
		says(t, of(256, l, 200, 3), false)
	}
	for _, f := range append(odd, from(-3, 263, 1)...) {
		for _, l := range [][]int{{f}, {f, 4}, {4, f}} {
			isAs(t, of(256, l, 200, 3))
			isAs(t, of(200, l, 100, 100))
			isAs(t, of(5, l, 2, 1))
		}
	}
}

// P13.1: a Host of 1 to 256.
func TestHosts(t *testing.T) {
	for host := 1; host <= 256; host++ {
		says(t, of(host, []int{0}, 1, 0), true)
		says(t, of(host, []int{host - 1}, 0, host-1), true)
		says(t, of(host, []int{host}, 0, 0), false)
	}
	for _, host := range append(odd, 0, 257) {
		if host >= 1 && host <= 256 {
			continue
		}
		for _, l := range [][]int{nil, {0}, {1, 0}, {host}, {host - 1}, {-1}} {
			says(t, of(host, l, 0, 0), false)
			says(t, of(host, l, 1, 0), false)
			says(t, of(host, l, 2, 3), false)
			says(t, of(host, l, host, 0), false)
		}
	}
	says(t, of(257, []int{0}, 1, 256), false)
	says(t, of(257, []int{0}, 1, 255), false)
	says(t, of(257, []int{256}, 0, 256), false)
}

// P13.1: a Tlb of 1 to 64, Asids of 1 to 8, and a Root of 0 to 255, whether the guest has it or not.
func TestSizes(t *testing.T) {
	for _, n := range append(odd, from(-10, 300, 1)...) {
		for _, c := range []api.Conf{base(), of(256, from(0, 64, 1), 64, 192), of(1, []int{0}, 0, 0)} {
			with := c
			with.Tlb = n
			says(t, with, n >= 1 && n <= 64)
			with = c
			with.Asids = n
			says(t, with, n >= 1 && n <= 8)
			with = c
			with.Root = n
			says(t, with, n >= 0 && n <= 255)
		}
	}
}

// P13.1: each number at every edge, and each two of them at once.
func TestEachTwoNumbers(t *testing.T) {
	for i, one := range fields() {
		for _, other := range fields()[:i] {
			for _, a := range odd {
				for _, b := range odd {
					c := base()
					*one.at(&c), *other.at(&c) = a, b
					isAs(t, c)
				}
			}
		}
	}
}

// P13.1: one number that may not be is enough, and so is each of them; all of one that is zero is not right.
func TestOneThatMayNotBeIsEnough(t *testing.T) {
	says(t, api.Conf{}, false)
	for _, c := range rights() {
		for _, f := range fields() {
			for _, n := range []int{math.MinInt, -1, 257, math.MaxInt} {
				with := c
				*f.at(&with) = n
				if conf.Right(with) {
					t.Errorf("%v is right, with %d as %s", c, n, f.name)
				}
				isAs(t, with)
			}
		}
		for _, l := range [][]int{nil, {}, {c.Host}, {-1}, {c.Map[0], c.Map[0]}, append(slices.Clone(c.Map), c.Map[0])} {
			with := c
			with.Map = l
			says(t, with, false)
		}
	}
}

// P13.1, P13.2: all small hosts, with all maps of up to three, and all First and Many.
func TestAllSmallMachines(t *testing.T) {
	for host := -1; host <= 4; host++ {
		choices := max(host, 0) + 2 // -1 to host
		runs := 1
		for many := range 4 {
			for run := range runs {
				l := make([]int, many)
				for i, rest := 0, run; i < many; i, rest = i+1, rest/choices {
					l[i] = rest%choices - 1
				}
				for first := -1; first <= host+1; first++ {
					for shadows := -1; shadows <= host+2; shadows++ {
						isAs(t, of(host, l, first, shadows))
					}
				}
			}
			runs *= choices
		}
	}
}

// P13.2: each frame is one's, and just one's; what is told of a machine is in order, and of nothing but its host.
func TestEachFrameIsOnes(t *testing.T) {
	x := uint64(7)
	next := func(n int) int {
		x = x*6364136223846793005 + 1442695040888963407
		return int((x >> 33) % uint64(n))
	}
	made := 0
	for range 3000 {
		c := base()
		c.Host = 1 + next(256)
		c.First = next(c.Host + 1)
		c.Many = next(c.Host - c.First + 1)
		all := from(0, c.Host, 1)
		for range 1 + next(min(64, c.Host)) {
			i := next(len(all))
			c.Map = append(c.Map, all[i])
			all = slices.Delete(all, i, i+1)
			if len(all) == 0 {
				break
			}
		}
		// Most Maps that are drawn meet First: nearly all frames that do go.
		c.Map = slices.DeleteFunc(c.Map, func(f int) bool { return next(50) > 0 && isShadow(c, f) })
		isAs(t, c)
		if !conf.Right(c) {
			continue
		}
		made++
		ones := make([]int, c.Host)
		for _, l := range [][]int{conf.Image(c), conf.Foreign(c), from(c.First, c.Many, 1)} {
			if !slices.IsSorted(l) {
				t.Fatalf("%v has %v", c, l)
			}
			for _, f := range l {
				ones[f]++
			}
		}
		for f, n := range ones {
			if n != 1 {
				t.Fatalf("of %v, %d is of %d", c, f, n)
			}
		}
		if n := len(conf.Image(c)); n != len(c.Map) {
			t.Fatalf("of %v, %d are the guest's", c, n)
		}
	}
	if made < 1000 {
		t.Errorf("%d are right", made)
	}
}

// P13.1: how the Map is ordered changes nothing that is told.
func TestTheMapsOrderChangesNothing(t *testing.T) {
	for _, c := range rights() {
		sorted := slices.Sorted(slices.Values(c.Map))
		foreign := conf.Foreign(c)
		for turn := range c.Map {
			with := c
			with.Map = append(slices.Clone(c.Map[turn:]), c.Map[:turn]...)
			for _, l := range [][]int{with.Map, swapped(with.Map)} {
				with.Map = l
				if got := conf.Image(with); !conf.Right(with) || !slices.Equal(got, sorted) {
					t.Errorf("Image(%v) is %v", with, got)
				}
				if got := conf.Foreign(with); !slices.Equal(got, foreign) {
					t.Errorf("Foreign(%v) is %v", with, got)
				}
			}
		}
	}
}

// P3: a Map is not changed, nor its spare room, nor what stands ahead of it, whether one is right or not.
func TestAMapIsNotChanged(t *testing.T) {
	wrong := []api.Conf{of(8, nil, 2, 3), of(8, []int{5, 5}, 2, 3), of(8, []int{7, 5, 2}, 2, 3), of(8, []int{9, 8, 1}, 2, 3), of(8, []int{7, -1}, 2, 3), of(256, swapped(from(0, 65, 1)), 200, 3), of(0, []int{3, 1}, 0, 0)}
	for _, c := range append(rights(), wrong...) {
		whole := append(append([]int{-3, -2}, c.Map...), from(400, 70, 1)...)
		was := slices.Clone(whole)
		c.Map = whole[2 : 2+len(c.Map)]
		conf.Right(c)
		conf.Image(c)
		conf.Foreign(c)
		if !slices.Equal(whole, was) {
			t.Errorf("of %v, the Map is changed: %v", c, whole)
		}
	}
}

// P3: what comes out is new memory, its spare room too: of each call, and apart from the Map.
func TestListsAreNew(t *testing.T) {
	for _, c := range rights() {
		image, _, foreign := kinds(c)
		was := slices.Clone(c.Map)
		for _, l := range [][]int{conf.Image(c), conf.Foreign(c), conf.Image(c), conf.Foreign(c)} {
			l = l[:cap(l)]
			for i := range l {
				l[i] = -7
			}
		}
		if !slices.Equal(c.Map, was) {
			t.Errorf("the Map is %v, not %v", c.Map, was)
		}
		one, other := conf.Image(c), conf.Foreign(c)
		for _, l := range [][]int{conf.Image(c), conf.Foreign(c)} {
			l = l[:cap(l)]
			for i := range l {
				l[i] = -8
			}
		}
		if !slices.Equal(one, image) || !slices.Equal(other, foreign) {
			t.Errorf("of %v, %v and %v are changed", c, one, other)
		}
	}
}

// P3: what is told hangs on what is handed in alone: not on other machines, nor on what a Map was ahead of it.
func TestNothingIsKept(t *testing.T) {
	c := of(10, []int{5, 1}, 2, 2)
	for range 3 {
		for _, other := range rights() {
			isAs(t, other)
			isAs(t, c)
		}
		isAs(t, of(10, []int{5, 2}, 2, 2))
		says(t, c, true)
	}
	c.Map[0] = 3
	says(t, c, false)
	c.Map[0] = 0
	says(t, c, true)
	if got := conf.Image(c); !slices.Equal(got, []int{0, 1}) {
		t.Errorf("Image is %v", got)
	}
	if got := conf.Foreign(c); !slices.Equal(got, from(4, 6, 1)) {
		t.Errorf("Foreign is %v", got)
	}
}

// P1, P2: every call ends and none panics, at all arguments, all of them odd at once; there is nothing of one that is not right.
func TestNothingPanics(t *testing.T) {
	lists := [][]int{nil, {}, {0}, {255}, {5, 1}, odd, make([]int, 64), from(0, 64, 1), from(0, 65, 1), make([]int, 5000), {math.MinInt, math.MaxInt}, {math.MaxInt}, {math.MinInt}, {-1}}
	for _, l := range lists {
		for i := range odd {
			for step := range odd {
				c := api.Conf{Map: l}
				for n, f := range fields() {
					*f.at(&c) = odd[(i+n*step)%len(odd)]
				}
				isAs(t, c)
			}
		}
	}
}
