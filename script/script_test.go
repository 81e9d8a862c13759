package script_test

import (
	"bytes"
	"encoding/binary"
	"math"
	"slices"
	"testing"

	"silhouette/api"
	"silhouette/script"
)

// odd are numbers about every edge.
var odd = []int{math.MinInt, math.MinInt + 1, math.MinInt + 255, math.MinInt32, -1 << 32, -1<<32 + 5, -65536, -32768, -257, -256, -255, -129, -128, -127, -9, -8, -7, -2, -1, 0, 1, 2, 3, 4, 5, 6, 7, 8, 9, 10, 15, 16, 63, 64, 127, 128, 129, 130, 136, 254, 255, 256, 257, 263, 264, 511, 512, 513, 65535, 65536, math.MaxInt32, 1 << 32, 1<<32 + 3, 1 << 62, math.MaxInt - 255, math.MaxInt - 1, math.MaxInt}

// wide are words about every edge.
var wide = []uint64{0, 1, 2, 127, 128, 255, 256, 257, 258, 65535, 65536, 1 << 24, 1<<31 - 1, 1 << 31, 1<<32 - 1, 1 << 32, 1<<32 + 1, 1 << 40, 1 << 48, 1<<55 + 3, 1<<56 - 1, 1 << 56, 1<<63 - 1, 1 << 63, 1<<63 + 1, 0x0102030405060708, 0xf1f2f3f4f5f6f7f8, 0xff00000000000000, 0xffffffffffffc000, 1<<64 - 1}

// both are what a bool may be.
var both = []bool{false, true}

// kind is which parts the operations of a kind have, as the chapter tells them.
type kind struct {
	user, a, v, g, i, n bool
}

// kinds are those of the kinds 0 to 8.
func kinds() []kind {
	return []kind{
		{user: true, a: true},
		{user: true, a: true, v: true},
		{user: true, a: true},
		{a: true},
		{g: true},
		{g: true, i: true, v: true},
		{n: true},
		{a: true},
		{n: true},
	}
}

// right tells whether an operation is so, as the chapter does.
func right(o api.Op) bool {
	if o.What < 0 || o.What > 8 || o.G < 0 || o.G > 255 || o.N < 0 || o.N > 255 || o.I < 0 || o.I > 7 {
		return false
	}
	k := kinds()[o.What]
	return (k.user || !o.User) && (k.a || o.A == 0) && (k.v || o.V == 0) && (k.g || o.G == 0) && (k.i || o.I == 0) && (k.n || o.N == 0)
}

// plain is the bytes of a right one, as the chapter tells them.
func plain(o api.Op) []byte {
	b := []byte{byte(o.What)}
	if o.User {
		b[0] += 128
	}
	switch o.What {
	case 0, 2, 3, 7:
		return binary.BigEndian.AppendUint64(b, o.A)
	case 1:
		return binary.BigEndian.AppendUint64(binary.BigEndian.AppendUint64(b, o.A), o.V)
	case 4:
		return append(b, byte(o.G))
	case 5:
		return binary.BigEndian.AppendUint64(append(b, byte(o.G), byte(o.I)), o.V)
	}
	return append(b, byte(o.N))
}

// plains are the bytes of some, nothing if one is not right.
func plains(l []api.Op) []byte {
	var b []byte
	for _, o := range l {
		if !right(o) {
			return nil
		}
		b = append(b, plain(o)...)
	}
	return b
}

// sizes are how many bytes those of each kind have.
func sizes() []int { return []int{9, 17, 9, 9, 2, 11, 2, 9, 2} }

// first is the right one whose bytes b begins with, if there is one: what is there is tried as an operation's parts.
func first(b []byte) (api.Op, bool) {
	if len(b) == 0 || b[0]%128 > 8 {
		return api.Op{}, false
	}
	o := api.Op{What: int(b[0] % 128), User: b[0] > 127}
	if len(b) < sizes()[o.What] {
		return api.Op{}, false
	}
	switch o.What {
	case 0, 2, 3, 7:
		o.A = binary.BigEndian.Uint64(b[1:])
	case 1:
		o.A, o.V = binary.BigEndian.Uint64(b[1:]), binary.BigEndian.Uint64(b[9:])
	case 4:
		o.G = int(b[1])
	case 5:
		o.G, o.I, o.V = int(b[1]), int(b[2]), binary.BigEndian.Uint64(b[3:])
	default:
		o.N = int(b[1])
	}
	return o, right(o) && bytes.Equal(plain(o), b[:sizes()[o.What]])
}

// firsts are what Get is to answer.
func firsts(b []byte) ([]api.Op, int, api.Errno) {
	var l []api.Op
	n := 0
	for n < len(b) {
		o, is := first(b[n:])
		if !is {
			return l, n, api.ErrForm
		}
		l, n = append(l, o), n+sizes()[o.What]
	}
	return l, n, api.OK
}

// gets holds Get of b against what it is to answer, and has what is got written again.
func gets(t *testing.T, b []byte) {
	t.Helper()
	want, many, err := firsts(b)
	l, n, e := script.Get(b)
	if !slices.Equal(l, want) || n != many || e != err {
		t.Fatalf("Get of %x is %+v, %d, %d, not %+v, %d, %d", b, l, n, e, want, many, err)
	}
	if !bytes.Equal(script.Put(l), b[:n]) {
		t.Fatalf("what is got of %x is written as %x, not as %x", b, script.Put(l), b[:n])
	}
}

// is holds Right and Put of one against what they are to answer, and has it read again where it is right.
func is(t *testing.T, o api.Op) {
	t.Helper()
	if script.Right(o) != right(o) {
		t.Fatalf("Right of %+v is %t", o, script.Right(o))
	}
	puts(t, o)
}

// puts holds Put of some against what it is to answer, and has them read again where they are right.
func puts(t *testing.T, l ...api.Op) {
	t.Helper()
	b := script.Put(l)
	if !bytes.Equal(b, plains(l)) {
		t.Fatalf("Put of %+v is %x, not %x", l, b, plains(l))
	}
	if len(b) == 0 {
		return
	}
	if x, n, e := script.Get(b); !slices.Equal(x, l) || n != len(b) || e != api.OK {
		t.Fatalf("of the bytes of %+v there are got %+v, %d, %d", l, x, n, e)
	}
}

// some is one of each kind, each with all its parts, and a second one with none of them.
func some() []api.Op {
	return []api.Op{
		{What: api.OpLoad, User: true, A: 0x0102030405060708},
		{What: api.OpStore, User: true, A: 0xf1f2f3f4f5f6f7f8, V: 0x1112131415161718},
		{What: api.OpExec, User: true, A: 1},
		{What: api.OpInvlpg, A: 1 << 63},
		{What: api.OpRoot, G: 255},
		{What: api.OpEdit, G: 129, I: 7, V: 0x2122232425262728},
		{What: api.OpPick, N: 254},
		{What: api.OpPrefill, A: 1<<64 - 1},
		{What: api.OpEvict, N: 128},
		{What: api.OpLoad},
		{What: api.OpStore},
		{What: api.OpExec},
		{What: api.OpInvlpg},
		{What: api.OpRoot},
		{What: api.OpEdit},
		{What: api.OpPick},
		{What: api.OpPrefill},
		{What: api.OpEvict},
	}
}

// P12.1: L1, Right and Put, and P12.2: of what has all its parts, and of what has none of them.
func TestSome(t *testing.T) {
	for _, o := range some() {
		if !script.Right(o) {
			t.Fatalf("%+v is not right", o)
		}
		is(t, o)
	}
	puts(t)
	puts(t, some()...)
	back := some()
	slices.Reverse(back)
	puts(t, back...)
}

// P12.1: L1, Put and L2, Get: the very bytes of one of each kind.
func TestBytes(t *testing.T) {
	for _, c := range []struct {
		o    api.Op
		text string
	}{
		{api.Op{What: api.OpRoot, G: 5}, "\x04\x05"},
		{api.Op{What: api.OpRoot, G: 255}, "\x04\xff"},
		{api.Op{}, "\x00\x00\x00\x00\x00\x00\x00\x00\x00"},
		{api.Op{User: true}, "\x80\x00\x00\x00\x00\x00\x00\x00\x00"},
		{api.Op{What: api.OpLoad, A: 0x0102030405060708}, "\x00\x01\x02\x03\x04\x05\x06\x07\x08"},
		{api.Op{What: api.OpLoad, User: true, A: 0x0102030405060708}, "\x80\x01\x02\x03\x04\x05\x06\x07\x08"},
		{api.Op{What: api.OpStore, A: 0xfffefdfcfbfaf9f8, V: 0x0102030405060708}, "\x01\xff\xfe\xfd\xfc\xfb\xfa\xf9\xf8\x01\x02\x03\x04\x05\x06\x07\x08"},
		{api.Op{What: api.OpStore, User: true, V: 1}, "\x81\x00\x00\x00\x00\x00\x00\x00\x00\x00\x00\x00\x00\x00\x00\x00\x01"},
		{api.Op{What: api.OpExec, A: 1 << 63}, "\x02\x80\x00\x00\x00\x00\x00\x00\x00"},
		{api.Op{What: api.OpExec, User: true, A: 256}, "\x82\x00\x00\x00\x00\x00\x00\x01\x00"},
		{api.Op{What: api.OpInvlpg, A: 128}, "\x03\x00\x00\x00\x00\x00\x00\x00\x80"},
		{api.Op{What: api.OpEdit, G: 1, I: 2, V: 3}, "\x05\x01\x02\x00\x00\x00\x00\x00\x00\x00\x03"},
		{api.Op{What: api.OpEdit, G: 255, I: 7, V: 0x8182838485868788}, "\x05\xff\x07\x81\x82\x83\x84\x85\x86\x87\x88"},
		{api.Op{What: api.OpPick, N: 200}, "\x06\xc8"},
		{api.Op{What: api.OpPrefill, A: 1<<64 - 1}, "\x07\xff\xff\xff\xff\xff\xff\xff\xff"},
		{api.Op{What: api.OpEvict}, "\x08\x00"},
		{api.Op{What: api.OpEvict, N: 255}, "\x08\xff"},
	} {
		if !script.Right(c.o) || string(script.Put([]api.Op{c.o})) != c.text {
			t.Fatalf("Put of %+v is %x, not %x", c.o, script.Put([]api.Op{c.o}), c.text)
		}
		if l, n, e := script.Get([]byte(c.text)); !slices.Equal(l, []api.Op{c.o}) || n != len(c.text) || e != api.OK {
			t.Fatalf("Get of %x is %+v, %d, %d, not %+v", c.text, l, n, e, c.o)
		}
	}
}

// P12.1: L1, no What but 0 to 8 is right, whatever the parts are; of these each is with all others zero.
func TestWhat(t *testing.T) {
	for _, what := range odd {
		if script.Right(api.Op{What: what}) != (what >= 0 && what <= 8) {
			t.Fatalf("Right of the What %d is wrong", what)
		}
		for _, o := range some() {
			o.What = what
			is(t, o)
		}
	}
	for what := -1000; what < 1000; what++ {
		is(t, api.Op{What: what})
		is(t, api.Op{What: what, A: 8})
		is(t, api.Op{What: what, User: true, A: 8})
	}
}

// P12.1: L1, a part is right of those kinds alone that have it, and in its bounds.
func TestParts(t *testing.T) {
	for what, k := range kinds() {
		for _, user := range both {
			o := api.Op{What: what, User: user}
			if script.Right(o) != (k.user || !user) {
				t.Fatalf("Right of %+v is wrong", o)
			}
			is(t, o)
		}
		for _, v := range wide {
			a, x := api.Op{What: what, A: v}, api.Op{What: what, V: v}
			if script.Right(a) != (k.a || v == 0) || script.Right(x) != (k.v || v == 0) {
				t.Fatalf("Right of %+v or of %+v is wrong", a, x)
			}
			is(t, a)
			is(t, x)
		}
		for _, v := range odd {
			g, i, n := api.Op{What: what, G: v}, api.Op{What: what, I: v}, api.Op{What: what, N: v}
			if script.Right(g) != (v == 0 || k.g && v >= 0 && v <= 255) {
				t.Fatalf("Right of %+v is wrong", g)
			}
			if script.Right(i) != (v == 0 || k.i && v >= 0 && v <= 7) {
				t.Fatalf("Right of %+v is wrong", i)
			}
			if script.Right(n) != (v == 0 || k.n && v >= 0 && v <= 255) {
				t.Fatalf("Right of %+v is wrong", n)
			}
			is(t, g)
			is(t, i)
			is(t, n)
		}
	}
}

// P12.1, P12.2: all of G, I and N, of those that have them; none beyond.
func TestAllSmall(t *testing.T) {
	for n := -300; n < 600; n++ {
		for _, what := range []int{api.OpPick, api.OpEvict} {
			is(t, api.Op{What: what, N: n})
		}
		is(t, api.Op{What: api.OpRoot, G: n})
		for i := -10; i < 20; i++ {
			is(t, api.Op{What: api.OpEdit, G: n, I: i})
			is(t, api.Op{What: api.OpEdit, G: n, I: i, V: 0x2122232425262728})
		}
	}
}

// P12.1, P12.2: all of A and V about the edges, of those that have them.
func TestAllWide(t *testing.T) {
	for _, a := range wide {
		for _, v := range wide {
			for _, user := range both {
				is(t, api.Op{What: api.OpStore, User: user, A: a, V: v})
				is(t, api.Op{What: api.OpLoad, User: user, A: a, V: v})
				is(t, api.Op{What: api.OpExec, User: user, A: a, V: v})
				is(t, api.Op{What: api.OpInvlpg, User: user, A: a, V: v})
				is(t, api.Op{What: api.OpPrefill, User: user, A: a, V: v})
				is(t, api.Op{What: api.OpEdit, User: user, G: 3, I: 4, A: a, V: v})
			}
		}
	}
	for bit := range 64 {
		puts(t, api.Op{A: 1 << bit}, api.Op{What: api.OpStore, A: 1 << bit, V: 1 << (63 - bit)}, api.Op{What: api.OpEdit, V: 1 << bit})
	}
}

// P12.1: L1, all operations of a few values: of each part zero, one that may be, and some that may not.
func TestAllOfFewValues(t *testing.T) {
	small := []int{-1, 0, 1, 7, 8, 255, 256}
	n := 0
	for what := -1; what <= 9; what++ {
		for _, g := range small {
			for _, i := range small {
				for _, k := range small {
					for _, user := range both {
						for x := range uint64(4) {
							o := api.Op{What: what, User: user, A: x % 2 << 40, V: x / 2 << 50, G: g, I: i, N: k}
							is(t, o)
							if script.Right(o) {
								n++
							}
						}
					}
				}
			}
		}
	}
	// Of 0 and 2 four, of 1 eight, of 3 and 7 two; five of each of 4, 6 and 8, and of 5 five by three by two.
	if n != 2*4+8+2*2+3*5+5*3*2 {
		t.Errorf("%d are right", n)
	}
}

// P12.1, P2: L1, Put of a list of which one is not right is nothing, wherever that stands.
func TestOneIsNotRight(t *testing.T) {
	for _, wrong := range []api.Op{
		{What: 9}, {What: -1}, {What: 128}, {What: 132, G: 5}, {What: 256}, {What: math.MinInt}, {What: 1<<32 + 4},
		{What: api.OpRoot, G: 256}, {What: api.OpRoot, G: -1}, {What: api.OpRoot, User: true}, {What: api.OpRoot, A: 1}, {What: api.OpRoot, N: 1}, {What: api.OpRoot, I: 1}, {What: api.OpRoot, V: 1},
		{What: api.OpEdit, I: 8}, {What: api.OpEdit, I: -1}, {What: api.OpEdit, G: 256}, {What: api.OpEdit, A: 1}, {What: api.OpEdit, N: 1}, {What: api.OpEdit, User: true},
		{What: api.OpPick, N: 256}, {What: api.OpPick, N: -1}, {What: api.OpPick, G: 1}, {What: api.OpEvict, N: 256}, {What: api.OpEvict, A: 1}, {What: api.OpEvict, User: true},
		{What: api.OpLoad, V: 1}, {What: api.OpLoad, G: 1}, {What: api.OpExec, I: 1}, {What: api.OpExec, N: 1}, {What: api.OpExec, V: 1 << 63}, {What: api.OpStore, G: 1}, {What: api.OpStore, N: 255},
		{What: api.OpInvlpg, User: true}, {What: api.OpInvlpg, V: 1}, {What: api.OpPrefill, G: 1}, {What: api.OpPrefill, User: true},
	} {
		if script.Right(wrong) {
			t.Fatalf("%+v is right", wrong)
		}
		for at := range len(some()) + 1 {
			if b := script.Put(slices.Insert(some(), at, wrong)); len(b) != 0 {
				t.Fatalf("with %+v as the one %d there is written %x", wrong, at, b)
			}
		}
	}
}

// P12.1: L1, L2, of none there are no bytes, and of no bytes there is none.
func TestNone(t *testing.T) {
	if len(script.Put(nil)) != 0 || len(script.Put([]api.Op{})) != 0 {
		t.Error("of none there are bytes")
	}
	for _, b := range [][]byte{nil, {}} {
		if l, n, e := script.Get(b); len(l) != 0 || n != 0 || e != api.OK {
			t.Errorf("of no bytes there is %+v, %d, %d", l, n, e)
		}
	}
}

// P12.1: L2, all bytes of two and fewer, and the same behind a right one.
func TestAllTwoBytes(t *testing.T) {
	for x := range 256 {
		gets(t, []byte{byte(x)})
		gets(t, []byte{4, 5, byte(x)})
		for y := range 256 {
			gets(t, []byte{byte(x), byte(y)})
			gets(t, []byte{8, 1, byte(x), byte(y)})
		}
	}
}

// P12.1: L2, each first byte and what may stand behind it, of as many bytes as each kind has, one fewer and one more.
func TestAllFirstBytes(t *testing.T) {
	for x := range 256 {
		for many := range 21 {
			for _, one := range []byte{0, 1, 7, 8, 9, 128, 255} {
				b := append([]byte{byte(x)}, bytes.Repeat([]byte{one}, many)...)
				gets(t, b)
			}
			b := []byte{byte(x), 1, 2, 3, 4, 5, 6, 7, 6, 5, 4, 3, 2, 1, 2, 3, 4, 5, 6, 7, 8}
			gets(t, b[:many+1])
		}
	}
}

// P12.1: L2, of an Edit's bytes all of G and I: I goes from 0 to 7.
func TestAllOfEdit(t *testing.T) {
	for g := range 256 {
		for i := range 256 {
			b := []byte{5, byte(g), byte(i), 0, 0, 0, 0, 0, 0, 0, 9}
			l, n, e := script.Get(b)
			if i > 7 {
				if len(l) != 0 || n != 0 || e != api.ErrForm {
					t.Fatalf("Get of %x is %+v, %d, %d", b, l, n, e)
				}
			} else if !slices.Equal(l, []api.Op{{What: api.OpEdit, G: g, I: i, V: 9}}) || n != 11 || e != api.OK {
				t.Fatalf("Get of %x is %+v, %d, %d", b, l, n, e)
			}
		}
	}
}

// P12.1, P12.3: L2, 128 more are right of those alone that have User.
func TestUser(t *testing.T) {
	for what, k := range kinds() {
		b := append([]byte{byte(what + 128)}, make([]byte, 16)...)
		b = append([]byte{4, 5}, b[:sizes()[what]]...)
		want, n, e := []api.Op{{What: api.OpRoot, G: 5}}, 2, api.ErrForm
		if k.user {
			want, n, e = append(want, api.Op{What: what, User: true}), len(b), api.OK
		}
		if l, m, f := script.Get(b); !slices.Equal(l, want) || m != n || f != e {
			t.Fatalf("Get of %x is %+v, %d, %d", b, l, m, f)
		}
	}
}

// P12.3: bytes that are cut are read up to where the last one that is whole ends.
func TestCut(t *testing.T) {
	for at := range some() {
		l := slices.Concat(some()[at:], some()[:at])
		b := script.Put(l)
		ends := map[int]int{0: 0}
		n := 0
		for i, o := range l {
			n += sizes()[o.What]
			ends[n] = i + 1
		}
		whole, end := 0, 0
		for many := range len(b) + 1 {
			e := api.ErrForm
			if k, is := ends[many]; is {
				whole, end, e = k, many, api.OK
			}
			x, m, f := script.Get(b[:many])
			if !slices.Equal(x, l[:whole]) || m != end || f != e {
				t.Fatalf("Get of the first %d of %x is %+v, %d, %d", many, b, x, m, f)
			}
		}
	}
}

// P12.3: bytes that are followed by others are read up to where these begin, whatever stands behind these.
func TestFollowed(t *testing.T) {
	l := some()
	b := script.Put(l)
	for _, more := range []string{
		"\x09", "\x0a\x00\x00", "\x7f", "\x89", "\xff", "\x10\x05", "\x83\x00\x00\x00\x00\x00\x00\x00\x00", "\x84\x05", "\x85\x01\x02\x00\x00\x00\x00\x00\x00\x00\x03", "\x86\x01", "\x87\x00\x00\x00\x00\x00\x00\x00\x00", "\x88\x01",
		"\x04", "\x06", "\x08", "\x00", "\x01", "\x02", "\x03", "\x05", "\x07", "\x80", "\x81", "\x82", "\x05\x01", "\x05\x01\x02", "\x05\x01\x08\x00\x00\x00\x00\x00\x00\x00\x00", "\x05\x01\xff\x00\x00\x00\x00\x00\x00\x00\x00",
		"\x00\x00\x00\x00\x00\x00\x00\x00", "\x01\x00\x00\x00\x00\x00\x00\x00\x00\x00\x00\x00\x00\x00\x00\x00", "\x05\x00\x00\x00\x00\x00\x00\x00\x00\x00",
	} {
		x, n, e := script.Get(slices.Concat(b, []byte(more)))
		if !slices.Equal(x, l) || n != len(b) || e != api.ErrForm {
			t.Fatalf("behind %x, Get is %+v, %d, %d", more, x, n, e)
		}
	}
	for _, more := range []string{"\x09", "\x84", "\xff", "\x05\x01\x08"} {
		x, n, e := script.Get(slices.Concat(b, []byte(more), b))
		if !slices.Equal(x, l) || n != len(b) || e != api.ErrForm {
			t.Fatalf("with %x between, Get is %+v, %d, %d", more, x, n, e)
		}
	}
	gets(t, slices.Concat(b, b, b))
}

// P12.3: each one of the bytes of some, by itself another one.
func TestOneByteIsAnother(t *testing.T) {
	for at := range script.Put(some()) {
		for x := range 256 {
			b := script.Put(some())
			b[at] = byte(x)
			gets(t, b)
		}
	}
}

// P12.2: all short lists, of two and three.
func TestAllShortLists(t *testing.T) {
	few := append(some(), api.Op{What: 9}, api.Op{What: api.OpRoot, N: 1})
	for _, x := range few {
		for _, y := range few {
			puts(t, x, y)
			for _, z := range few {
				puts(t, x, y, z)
			}
		}
	}
}

// luck tells numbers one behind the other, the same ones each time.
type luck uint64

func (l *luck) next(n int) int {
	*l = *l*6364136223846793005 + 1442695040888963407
	return int(uint64(*l) >> 33 % uint64(n))
}

// word is any, or one about the edges.
func (l *luck) word() uint64 {
	if l.next(2) == 0 {
		return wide[l.next(len(wide))]
	}
	return uint64(l.next(1<<31))<<40 ^ uint64(l.next(1<<31))<<20 ^ uint64(l.next(1<<31))
}

// op is a right one.
func (l *luck) op() api.Op {
	what := l.next(9)
	k := kinds()[what]
	o := api.Op{What: what, User: k.user && l.next(2) == 0}
	if k.a {
		o.A = l.word()
	}
	if k.v {
		o.V = l.word()
	}
	if k.g {
		o.G = l.next(256)
	}
	if k.i {
		o.I = l.next(8)
	}
	if k.n {
		o.N = l.next(256)
	}
	return o
}

// ops are so many right ones.
func (l *luck) ops(many int) []api.Op {
	var out []api.Op
	for range many {
		out = append(out, l.op())
	}
	return out
}

// any is one that may be wrong in a part.
func (l *luck) any() api.Op {
	o := l.op()
	switch l.next(12) {
	case 0:
		o.What = odd[l.next(len(odd))]
	case 1:
		o.User = !o.User
	case 2:
		o.A = l.word()
	case 3:
		o.V = l.word()
	case 4:
		o.G = odd[l.next(len(odd))]
	case 5:
		o.I = odd[l.next(len(odd))]
	case 6:
		o.N = odd[l.next(len(odd))]
	}
	return o
}

// P12.1, P12.2: long lists, of right ones and of any.
func TestLongLists(t *testing.T) {
	l := luck(12)
	for range 300 {
		puts(t, l.ops(l.next(200))...)
	}
	rights := 0
	for range 60000 {
		o := l.any()
		is(t, o)
		if script.Right(o) {
			rights++
		}
	}
	if rights < 30000 || rights > 50000 {
		t.Errorf("%d of 60000 are right", rights)
	}
	for range 3000 {
		var x []api.Op
		for range l.next(6) {
			x = append(x, l.any())
		}
		puts(t, x...)
	}
	many := l.ops(50000)
	puts(t, many...)
}

// P12.1, P12.3: any bytes, and those of right ones, cut or changed somewhere.
func TestAnyBytes(t *testing.T) {
	l := luck(13)
	whole, cut := 0, 0
	for range 20000 {
		var b []byte
		for range l.next(60) {
			x := l.next(256)
			if l.next(2) == 0 {
				x = l.next(9)
			}
			b = append(b, byte(x))
		}
		gets(t, b)
	}
	for range 20000 {
		b := script.Put(l.ops(1 + l.next(8)))
		for range l.next(3) {
			b[l.next(len(b))] = byte(l.next(256))
		}
		b = b[:len(b)-l.next(3)*l.next(len(b))/4]
		gets(t, b)
		if _, _, e := script.Get(b); e == api.OK {
			whole++
		} else {
			cut++
		}
	}
	if whole < 2000 || cut < 2000 {
		t.Errorf("%d are whole, %d are not", whole, cut)
	}
}

// P1: nothing panics, whatever it is given.
func TestNothingPanics(t *testing.T) {
	for _, x := range odd {
		for _, y := range odd {
			for _, o := range []api.Op{{What: x, G: y, I: y, N: y}, {What: x, G: y}, {What: x, N: y}, {What: x, User: true, A: uint64(y), V: uint64(y)}, {What: api.OpEdit, G: x, I: y}, {What: api.OpEdit, I: x, N: y}} {
				is(t, o)
				puts(t, api.Op{}, o)
			}
		}
	}
	for many := range 300 {
		for _, one := range []byte{0, 1, 5, 8, 9, 127, 128, 129, 130, 255} {
			gets(t, bytes.Repeat([]byte{one}, many))
		}
	}
}

// P3: what is handed in is not changed, nor its spare room.
func TestNothingIsChanged(t *testing.T) {
	for _, wrong := range both {
		l := append(some(), api.Op{What: api.OpRoot, G: 9}, api.Op{What: 77, G: 5, N: 3})
		was := slices.Clone(l)
		many := len(l) - 2
		if wrong {
			many = len(l)
		}
		script.Put(l[:many])
		script.Put(l[:many])
		if !slices.Equal(l, was) {
			t.Fatalf("Put has its list be %+v", l)
		}
	}
	b := append(script.Put(some()), 9, 4, 5, 255)
	was := bytes.Clone(b)
	for many := range len(b) + 1 {
		script.Get(b[:many])
		if !bytes.Equal(b, was) {
			t.Fatalf("Get has its bytes be %x", b)
		}
	}
}

// P3: what comes out is new memory, its spare room too, and what is handed in is not kept.
func TestListsAreNew(t *testing.T) {
	l := some()
	b, other := script.Put(l), script.Put(l)
	want := bytes.Clone(b)
	clear(other[:cap(other)])
	if !bytes.Equal(b, want) {
		t.Fatal("two lists of bytes are one")
	}
	clear(l)
	if !bytes.Equal(b, want) {
		t.Fatal("the bytes hang on the list")
	}
	x, n, e := script.Get(b)
	y, _, _ := script.Get(b)
	clear(y[:cap(y)])
	clear(b)
	if !slices.Equal(x, some()) || n != len(want) || e != api.OK {
		t.Fatal("what was got hangs on the bytes, or on what was got too")
	}
	clear(x[:cap(x)])
	b = append(want, 99)
	x, _, _ = script.Get(b)
	y, n, e = script.Get(b)
	clear(x[:cap(x)])
	if !slices.Equal(y, some()) || n != len(want) || e != api.ErrForm {
		t.Fatal("with ErrForm, what was got is one list")
	}
	clear(b)
	if !slices.Equal(y, some()) {
		t.Fatal("with ErrForm, what was got hangs on the bytes")
	}
}

// P3: what one call answers does not hang on those ahead of it.
func TestCallsDoNotTouch(t *testing.T) {
	l := luck(14)
	for range 200 {
		x, y := l.ops(5), l.ops(7)
		b := script.Put(x)
		script.Put(y)
		script.Get([]byte{4})
		script.Put([]api.Op{{What: -1}})
		if z, n, e := script.Get(b); !slices.Equal(z, x) || n != len(b) || e != api.OK {
			t.Fatalf("Get of %x is %+v, %d, %d", b, z, n, e)
		}
		if !bytes.Equal(script.Put(x), b) {
			t.Fatalf("Put of %+v is not %x any more", x, b)
		}
	}
}
