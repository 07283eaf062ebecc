package num_test

import (
	"bytes"
	"math"
	"slices"
	"testing"

	"newsreel/api"
	"newsreel/num"
)

// written: numbers and their bytes, worked out by hand, with each edge at which
// a number becomes a byte longer.
var written = []struct {
	v uint64
	b []byte
}{
	{0, []byte{0}},
	{1, []byte{1}},
	{100, []byte{100}},
	{127, []byte{127}},
	{128, []byte{128, 1}},
	{300, []byte{172, 2}},
	{1<<14 - 1, []byte{255, 127}},
	{1 << 14, []byte{128, 128, 1}},
	{1<<21 - 1, []byte{255, 255, 127}},
	{1 << 21, []byte{128, 128, 128, 1}},
	{1<<28 - 1, []byte{255, 255, 255, 127}},
	{1 << 28, []byte{128, 128, 128, 128, 1}},
	{1<<35 - 1, many(4, 255, 127)},
	{1 << 35, many(5, 128, 1)},
	{1<<42 - 1, many(5, 255, 127)},
	{1 << 42, many(6, 128, 1)},
	{1<<49 - 1, many(6, 255, 127)},
	{1 << 49, many(7, 128, 1)},
	{1<<56 - 1, many(7, 255, 127)},
	{1 << 56, many(8, 128, 1)},
	{1<<63 - 1, many(8, 255, 127)},
	{1 << 63, many(9, 128, 1)},
	{math.MaxUint64 - 1, append([]byte{254}, many(8, 255, 1)...)},
	{math.MaxUint64, many(9, 255, 1)},
}

// many: n times c, and behind it the rest.
func many(n int, c byte, rest ...byte) []byte {
	return append(bytes.Repeat([]byte{c}, n), rest...)
}

// numbers: some of every length in bits, among them the edges.
func numbers() []uint64 {
	var l []uint64
	for i := range 64 {
		v := uint64(1) << i
		l = append(l, v-1, v, v+1, v|0x5555555555555555>>(63-i), v|0x3333333333333333>>(63-i))
	}
	return append(l, math.MaxUint64)
}

// P1.1: each number has its digits, the lowest first, and as few as it has.
func TestPutOne(t *testing.T) {
	for _, x := range written {
		if b := num.Put(nil, x.v); !bytes.Equal(b, x.b) {
			t.Errorf("Put of %d: %v, not %v", x.v, b, x.b)
		}
	}
}

// P1.1: any number of numbers, in their order, behind what is there.
func TestPutMany(t *testing.T) {
	var all []uint64
	var want []byte
	for _, x := range written {
		all = append(all, x.v)
		want = append(want, x.b...)
	}
	if b := num.Put(nil, all...); !bytes.Equal(b, want) {
		t.Errorf("Put of all: %v, not %v", b, want)
	}
	if b := num.Put([]byte{9, 200, 0}, 300, 0, 5); !bytes.Equal(b, []byte{9, 200, 0, 172, 2, 0, 5}) {
		t.Errorf("Put behind three bytes: %v", b)
	}
	if b := num.Put([]byte{9, 200, 0}); !bytes.Equal(b, []byte{9, 200, 0}) {
		t.Errorf("Put of no number: %v", b)
	}
	for _, b := range [][]byte{num.Put(nil), num.Put([]byte{}), num.Put(nil, []uint64{}...)} {
		if len(b) != 0 {
			t.Errorf("Put of nothing: %v", b)
		}
	}
}

// Rule 3: Put changes neither what it is handed nor the room behind it, and
// answers new memory.
func TestPutIsNew(t *testing.T) {
	room := []byte{1, 2, 3, 4, 5, 6}
	roomOfNumbers := []uint64{300, 7, 1000, 1001}
	for k := range len(room) + 1 {
		for n := range len(roomOfNumbers) + 1 {
			out := num.Put(room[:k], roomOfNumbers[:n]...)
			clear(out[:cap(out)])
			if !bytes.Equal(room, []byte{1, 2, 3, 4, 5, 6}) {
				t.Fatalf("Put behind %d bytes, of %d numbers: what was handed in is %v now", k, n, room)
			}
			if !slices.Equal(roomOfNumbers, []uint64{300, 7, 1000, 1001}) {
				t.Fatalf("Put of %d numbers: they are %v now", n, roomOfNumbers)
			}
		}
	}
}

// P1.1: Size is how many bytes Put writes.
func TestSize(t *testing.T) {
	for _, x := range written {
		if n := num.Size(x.v); n != len(x.b) {
			t.Errorf("Size of %d: %d, not %d", x.v, n, len(x.b))
		}
	}
	for _, v := range numbers() {
		if n, b := num.Size(v), num.Put(nil, v); n != len(b) {
			t.Errorf("Size of %d: %d, but Put writes %v", v, n, b)
		}
	}
}

// P1.1: the number at the beginning is taken, whatever is behind it.
func TestTake(t *testing.T) {
	behind := [][]byte{nil, {0}, {1}, {127}, {128}, {255, 9}, many(12, 255), many(12, 0)}
	for _, x := range written {
		for _, more := range behind {
			b := slices.Concat(x.b, more)
			kept := bytes.Clone(b)
			v, n, e := num.Take(b)
			if v != x.v || n != len(x.b) || e != api.OK {
				t.Errorf("Take of %v: %d, %d, %d", b, v, n, e)
			}
			if !bytes.Equal(b, kept) {
				t.Errorf("Take changed %v to %v", kept, b)
			}
		}
	}
}

// P1.1: bytes that end ahead of the last one, and those that aren't so written;
// beside an error all else is zero.
func TestTakeRefuses(t *testing.T) {
	for _, x := range []struct {
		b []byte
		e api.Errno
	}{
		{nil, api.ErrShort},
		{[]byte{}, api.ErrShort},
		{[]byte{128}, api.ErrShort},
		{[]byte{129}, api.ErrShort},
		{[]byte{255, 128}, api.ErrShort},
		{many(8, 255), api.ErrShort},
		{many(9, 128), api.ErrShort},
		{many(9, 255), api.ErrShort},

		{many(10, 128), api.ErrForm},
		{many(10, 255), api.ErrForm},
		{many(11, 128), api.ErrForm},
		{many(10, 128, 0), api.ErrForm},
		{many(10, 128, 1), api.ErrForm},
		{many(9, 255, 129, 1), api.ErrForm},
		{many(20, 255), api.ErrForm},

		{[]byte{128, 0}, api.ErrForm},
		{[]byte{255, 0}, api.ErrForm},
		{[]byte{255, 0, 1}, api.ErrForm},
		{[]byte{129, 128, 0}, api.ErrForm},
		{many(8, 255, 0), api.ErrForm},
		{many(9, 128, 0), api.ErrForm},
		{many(9, 255, 0), api.ErrForm},

		{many(9, 128, 2), api.ErrForm},
		{many(9, 255, 2), api.ErrForm},
		{many(9, 255, 3), api.ErrForm},
		{many(9, 128, 64), api.ErrForm},
		{many(9, 255, 127), api.ErrForm},
	} {
		if v, n, e := num.Take(x.b); v != 0 || n != 0 || e != x.e {
			t.Errorf("Take of %v: %d, %d, %d, not 0, 0, %d", x.b, v, n, e, x.e)
		}
	}
}

// P1.1: of a number's bytes, any that aren't all of them are too few.
func TestTakeCut(t *testing.T) {
	for _, v := range numbers() {
		b := num.Put(nil, v)
		for k := range b {
			// The bytes behind the cut are room, not bytes.
			if got, n, e := num.Take(b[:k]); got != 0 || n != 0 || e != api.ErrShort {
				t.Errorf("Take of %v: %d, %d, %d", b[:k], got, n, e)
			}
		}
	}
}

// P1.2: the n lowest bytes, n held to 0 to 8, the highest first.
func TestFixed(t *testing.T) {
	const v = 0xf1f2f3f4f5f6f7f8
	all := []byte{0xf1, 0xf2, 0xf3, 0xf4, 0xf5, 0xf6, 0xf7, 0xf8}
	for n := range 9 {
		if b := num.Fixed(v, n); !bytes.Equal(b, all[8-n:]) {
			t.Errorf("Fixed to %d: %v", n, b)
		}
	}
	for _, n := range []int{-1, -2, -8, math.MinInt} {
		if b := num.Fixed(v, n); len(b) != 0 {
			t.Errorf("Fixed to %d: %v", n, b)
		}
	}
	for _, n := range []int{9, 10, 64, math.MaxInt} {
		if b := num.Fixed(v, n); !bytes.Equal(b, all) {
			t.Errorf("Fixed to %d: %v", n, b)
		}
	}
	for _, x := range []struct {
		v uint64
		n int
		b []byte
	}{
		{258, 3, []byte{0, 1, 2}},
		{258, 1, []byte{2}},
		{258, 8, []byte{0, 0, 0, 0, 0, 0, 1, 2}},
		{0, 2, []byte{0, 0}},
		{0, 0, nil},
		{1 << 32, 4, []byte{0, 0, 0, 0}},
		{math.MaxUint64, 8, many(8, 255)},
		{1 << 63, 9, append([]byte{128}, many(7, 0)...)},
	} {
		if b := num.Fixed(x.v, x.n); !bytes.Equal(b, x.b) {
			t.Errorf("Fixed of %d to %d: %v, not %v", x.v, x.n, b, x.b)
		}
	}
}

// P1.2: the first eight bytes, or all, the highest first.
func TestBig(t *testing.T) {
	for _, x := range []struct {
		b []byte
		v uint64
	}{
		{nil, 0},
		{[]byte{}, 0},
		{[]byte{0}, 0},
		{[]byte{200}, 200},
		{[]byte{1, 2}, 258},
		{[]byte{0, 0, 1, 2}, 258},
		{[]byte{1, 2, 3, 4, 5, 6, 7}, 0x01020304050607},
		{[]byte{1, 2, 3, 4, 5, 6, 7, 8}, 0x0102030405060708},
		{[]byte{1, 2, 3, 4, 5, 6, 7, 8, 9}, 0x0102030405060708},
		{[]byte{0, 0, 0, 0, 0, 0, 0, 0, 9}, 0},
		{many(8, 255), math.MaxUint64},
		{many(30, 255), math.MaxUint64},
		{append([]byte{128}, many(20, 0)...), 1 << 63},
	} {
		kept := bytes.Clone(x.b)
		if v := num.Big(x.b); v != x.v {
			t.Errorf("Big of %v: %d, not %d", x.b, v, x.v)
		}
		if !bytes.Equal(x.b, kept) {
			t.Errorf("Big changed %v to %v", kept, x.b)
		}
	}
}

// P1.2: Big of Fixed is what is left of the number in so many bytes.
func TestBigOfFixed(t *testing.T) {
	for _, v := range numbers() {
		for n := range 9 {
			want := v
			if n < 8 {
				want %= 1 << (8 * n)
			}
			if got := num.Big(num.Fixed(v, n)); got != want {
				t.Errorf("Big of Fixed of %d to %d: %d, not %d", v, n, got, want)
			}
		}
	}
}

// P1.3: what is put is taken, one number behind the other.
func TestPutIsTaken(t *testing.T) {
	l := numbers()
	b := num.Put(nil, l...)
	for i, want := range l {
		v, n, e := num.Take(b)
		if v != want || n != num.Size(want) || e != api.OK {
			t.Fatalf("Take of number %d, %d: %d, %d, %d", i, want, v, n, e)
		}
		b = b[n:]
	}
	if len(b) != 0 {
		t.Errorf("%v is left", b)
	}
}

// checkTaken: if a number is taken from b, it is put as just the bytes that it had.
func checkTaken(t *testing.T, b []byte) {
	t.Helper()
	v, n, e := num.Take(b)
	if e == api.OK && !bytes.Equal(num.Put(nil, v), b[:n]) {
		t.Fatalf("Take of %v: %d, which is put as %v", b, v, num.Put(nil, v))
	}
}

// P1.3: no other bytes are that number: all of up to two bytes, and of three to
// eleven those of which each is at an edge of what a byte may be.
func TestNoOtherBytes(t *testing.T) {
	for x := range 1 << 16 {
		checkTaken(t, []byte{byte(x >> 8), byte(x)})
		checkTaken(t, []byte{byte(x)})
	}
	edges := []byte{0, 1, 2, 127, 128, 129, 255}
	for size := 3; size <= 11; size++ {
		b := make([]byte, size)
		for _, first := range edges {
			for _, middle := range []byte{128, 129, 254, 255} {
				for _, next := range edges {
					for _, last := range edges {
						copy(b, bytes.Repeat([]byte{middle}, size))
						b[0], b[size-2], b[size-1] = first, next, last
						checkTaken(t, b)
					}
				}
			}
		}
	}
}

// P1.3: no two numbers are the same bytes, or the beginning of one another's.
func TestNumbersApart(t *testing.T) {
	for i, x := range written {
		for k, y := range written {
			if i != k && bytes.HasPrefix(num.Put(nil, x.v), num.Put(nil, y.v)) {
				t.Errorf("%d begins as %d", x.v, y.v)
			}
		}
	}
}

// P1.3, of whatever bytes there are.
func FuzzTake(f *testing.F) {
	for _, x := range written {
		f.Add(x.b)
	}
	f.Fuzz(func(t *testing.T, b []byte) {
		checkTaken(t, b)
		if v, n, e := num.Take(b); e != api.OK && (v != 0 || n != 0) {
			t.Fatalf("Take of %v: %d, %d beside error %d", b, v, n, e)
		}
	})
}
