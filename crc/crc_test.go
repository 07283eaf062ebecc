package crc_test

import (
	"bytes"
	"hash/crc32"
	"math"
	"slices"
	"testing"

	"newsreel/crc"
	"newsreel/sample"
)

// known: bytes and their checksums, as they are told elsewhere.
var known = []struct {
	b string
	s uint32
}{
	{"", 0},
	{"\x00", 0xd202ef8d},
	{"\xff", 0xff000000},
	{"a", 0xe8b7be43},
	{"abc", 0x352441c2},
	{"123456789", 0xcbf43926},
	{"message digest", 0x20159d7f},
	{"\x00\x00\x00\x00", 0x2144df1c},
	{"\xff\xff\xff\xff", 0xffffffff},
	{"The quick brown fox jumps over the lazy dog", 0x414fa339},
}

// slow: the checksum bit by bit, as the standard tells it.
func slow(b []byte) uint32 {
	r := uint32(math.MaxUint32)
	for _, c := range b {
		for k := range 8 {
			out := r&1 ^ uint32(c>>k&1)
			r >>= 1
			if out == 1 {
				r ^= 0xedb88320
			}
		}
	}
	return ^r
}

// P2.1: Sum is the checksum of the standard.
func TestSum(t *testing.T) {
	for _, x := range known {
		if s := crc.Sum([]byte(x.b)); s != x.s {
			t.Errorf("Sum of %q: %#x, not %#x", x.b, s, x.s)
		}
	}
	for x := range 1 << 16 {
		b := []byte{byte(x >> 8), byte(x)}
		if s := crc.Sum(b); s != slow(b) || s != crc32.ChecksumIEEE(b) {
			t.Fatalf("Sum of %v: %#x, not %#x", b, s, slow(b))
		}
		if s := crc.Sum(b[1:]); s != slow(b[1:]) {
			t.Fatalf("Sum of %v: %#x, not %#x", b[1:], s, slow(b[1:]))
		}
	}
	for n := range 300 {
		b := sample.Bytes(n, uint32(n))
		if s := crc.Sum(b); s != slow(b) || s != crc32.ChecksumIEEE(b) {
			t.Errorf("Sum of %d bytes: %#x, not %#x", n, s, slow(b))
		}
	}
	long := sample.Bytes(1<<20+3, 7)
	if s := crc.Sum(long); s != crc32.ChecksumIEEE(long) {
		t.Errorf("Sum of %d bytes: %#x", len(long), s)
	}
}

// P2.1: of no parts, and of parts in which there is nothing, Sum is that of nothing.
func TestSumOfNothing(t *testing.T) {
	for i, s := range []uint32{
		crc.Sum(),
		crc.Sum([][]byte{}...),
		crc.Sum([][]byte(nil)...),
		crc.Sum(nil),
		crc.Sum([]byte{}),
		crc.Sum(nil, nil),
		crc.Sum(nil, []byte{}, nil, []byte{}),
	} {
		if s != 0 {
			t.Errorf("Sum of nothing, the %dth way: %#x", i, s)
		}
	}
}

// P2.1: wherever it is cut, Sum of the parts is that of the whole.
func TestSumOfParts(t *testing.T) {
	b := sample.Bytes(60, 1)
	want := slow(b)
	for i := range len(b) + 1 {
		for k := i; k <= len(b); k++ {
			if s := crc.Sum(b[:i], b[i:k], b[k:]); s != want {
				t.Errorf("Sum of parts, cut at %d and %d: %#x, not %#x", i, k, s, want)
			}
		}
		if s := crc.Sum(nil, b[:i], []byte{}, nil, b[i:], nil); s != want {
			t.Errorf("Sum of parts, cut at %d, nothing between them: %#x, not %#x", i, s, want)
		}
	}
	var each [][]byte
	for i := range b {
		each = append(each, b[i:i+1])
	}
	if s := crc.Sum(each...); s != want {
		t.Errorf("Sum of each byte by itself: %#x, not %#x", s, want)
	}
	slices.Reverse(each)
	back := bytes.Clone(b)
	slices.Reverse(back)
	if s := crc.Sum(each...); s != slow(back) || s == want {
		t.Errorf("Sum of each byte by itself, the last first: %#x, not %#x", s, slow(back))
	}
}

// P2.1: More goes on where the checksum was left.
func TestMore(t *testing.T) {
	b := sample.Bytes(80, 2)
	for i := range len(b) + 1 {
		if s := crc.More(slow(b[:i]), b[i:]); s != slow(b) {
			t.Errorf("More from %d on: %#x, not %#x", i, s, slow(b))
		}
		if s := crc.More(crc.More(crc.Sum(b[:i/2]), b[i/2:i]), b[i:]); s != slow(b) {
			t.Errorf("More and more, to %d: %#x, not %#x", i, s, slow(b))
		}
		if s := crc.More(0, b[:i]); s != slow(b[:i]) {
			t.Errorf("More behind nothing, %d bytes: %#x, not %#x", i, s, slow(b[:i]))
		}
	}
}

// P2.1: with nothing more the checksum stays, whatever it is.
func TestMoreOfNothing(t *testing.T) {
	for _, s := range []uint32{0, 1, 0x12345678, 0xcbf43926, 1 << 31, math.MaxUint32 - 1, math.MaxUint32} {
		if x, y := crc.More(s, nil), crc.More(s, []byte{}); x != s || y != s {
			t.Errorf("More of nothing behind %#x: %#x, %#x", s, x, y)
		}
	}
}

// P2.1, rule 1: each number is the Sum of some bytes, so More goes on from all of them.
func TestMoreFromAnySum(t *testing.T) {
	for i := range 1000 {
		b := sample.Bytes(4, uint32(i))
		more := sample.Bytes(i%9, uint32(i)+77)
		if s, want := crc.More(slow(b), more), crc32.Update(slow(b), crc32.IEEETable, more); s != want {
			t.Errorf("More from %#x: %#x, not %#x", slow(b), s, want)
		}
	}
}

// P2.1: Seal is the bytes and their Sum, its highest byte first.
func TestSeal(t *testing.T) {
	for _, x := range []struct{ b, sealed string }{
		{"", "\x00\x00\x00\x00"},
		{"\x00", "\x00\xd2\x02\xef\x8d"},
		{"123456789", "123456789\xcb\xf4\x39\x26"},
		{"\xff\xff\xff\xff", "\xff\xff\xff\xff\xff\xff\xff\xff"},
	} {
		if b := crc.Seal([]byte(x.b)); string(b) != x.sealed {
			t.Errorf("Seal of %q: %x, not %x", x.b, b, x.sealed)
		}
	}
	if b := crc.Seal(nil); !bytes.Equal(b, make([]byte, 4)) {
		t.Errorf("Seal of nil: %x", b)
	}
	for n := range 200 {
		b := sample.Bytes(n, 3)
		s := slow(b)
		want := append(bytes.Clone(b), byte(s>>24), byte(s>>16), byte(s>>8), byte(s))
		if got := crc.Seal(b); !bytes.Equal(got, want) {
			t.Errorf("Seal of %d bytes: %x, not %x", n, got, want)
		}
	}
}

// P2.1: what is sealed is opened, and is what it was.
func TestOpen(t *testing.T) {
	for n := range 200 {
		b := sample.Bytes(n, 4)
		if got, is := crc.Open(crc.Seal(b)); !is || !bytes.Equal(got, b) {
			t.Errorf("Open of %d bytes, sealed: %x, %v", n, got, is)
		}
	}
	twice := crc.Seal(crc.Seal([]byte("ab")))
	if once, is := crc.Open(twice); !is || !bytes.Equal(once, crc.Seal([]byte("ab"))) {
		t.Errorf("Open of what is sealed twice: %x, %v", once, is)
	}
}

// refused: that b isn't opened, and that nothing is answered beside false.
func refused(t *testing.T, b []byte, why string) {
	t.Helper()
	if got, is := crc.Open(b); is || len(got) != 0 {
		t.Errorf("Open of %x, %s: %x, %v", b, why, got, is)
	}
}

// P2.1: fewer than four bytes are no checksum; four are one of nothing, if they are 0.
func TestOpenOfFew(t *testing.T) {
	refused(t, nil, "nil")
	for n := range 4 {
		for _, c := range []byte{0, 1, 255} {
			refused(t, bytes.Repeat([]byte{c}, n), "too few")
			refused(t, bytes.Repeat([]byte{c}, 8)[:n], "too few, but with room behind it")
		}
	}
	if got, is := crc.Open(make([]byte, 4)); !is || len(got) != 0 {
		t.Errorf("Open of nothing, sealed: %x, %v", got, is)
	}
	for bit := range 32 {
		b := make([]byte, 4)
		b[bit/8] = 1 << (bit % 8)
		refused(t, b, "not that of nothing")
	}
	refused(t, make([]byte, 5), "not that of a zero")
	refused(t, []byte("\x00\x8d\xef\x02\xd2"), "the lowest byte first")
}

// P2.1: one byte changed anywhere, added or taken away, isn't opened.
func TestOpenOfChanged(t *testing.T) {
	for _, n := range []int{0, 1, 3, 4, 5, 31} {
		sealed := crc.Seal(sample.Bytes(n, 5))
		for i := range sealed {
			for c := 1; c < 256; c++ {
				b := bytes.Clone(sealed)
				b[i] ^= byte(c)
				refused(t, b, "one byte changed")
			}
		}
		for i := range sealed {
			refused(t, sealed[:i], "cut")
			refused(t, sealed[i+1:], "its beginning gone")
		}
		refused(t, slices.Concat(sealed, []byte{0}), "a zero behind it")
		refused(t, slices.Concat([]byte{0}, sealed), "a zero ahead of it")
	}
}

// Rule 3: what is handed in stays, the room behind it too, and what is answered is new.
func TestNothingShared(t *testing.T) {
	for n := range 20 {
		room := sample.Bytes(n+9, 6)
		kept := bytes.Clone(room)
		sealed := crc.Seal(room[:n])
		clear(sealed[:cap(sealed)])
		crc.Sum(room[:n], room[:n/2])
		crc.More(9, room[:n])
		if !bytes.Equal(room, kept) {
			t.Fatalf("%d bytes were handed in, and are %x now, not %x", n, room, kept)
		}

		room = slices.Concat(crc.Seal(sample.Bytes(n, 6)), sample.Bytes(9, 8))
		kept = bytes.Clone(room)
		opened, is := crc.Open(room[:n+4])
		if !is {
			t.Fatalf("Open of %d bytes, sealed, with room behind it", n)
		}
		clear(opened[:cap(opened)])
		if !bytes.Equal(room, kept) {
			t.Fatalf("Open of %d bytes: they are %x now, not %x", n, room, kept)
		}
	}
	parts := [][]byte{sample.Bytes(3, 1), nil, sample.Bytes(5, 2), sample.Bytes(4, 3)}
	crc.Sum(parts[:3]...)
	for i, want := range [][]byte{sample.Bytes(3, 1), nil, sample.Bytes(5, 2), sample.Bytes(4, 3)} {
		if !bytes.Equal(parts[i], want) {
			t.Errorf("Sum changed part %d to %x", i, parts[i])
		}
	}
}

// changed: b with the 32 bits from bit at on turned where p has ones; those beyond
// its end are not there.
func changed(b []byte, at int, p uint32) []byte {
	b = bytes.Clone(b)
	for k := range 32 {
		if i := at + k; i < 8*len(b) {
			b[i/8] ^= byte(p>>k&1) << (i % 8)
		}
	}
	return b
}

// P2.2: what is changed within 32 bits side by side has another Sum, wherever it
// is: of one bit and of two, of runs, and of the patterns that 0xEDB88320 makes.
func TestBursts(t *testing.T) {
	patterns := []uint32{0xedb88320, 0x04c11db7, 0x82608edb, 0xdb710641, math.MaxUint32, 0x55555555, 0x12345679}
	for k := range 32 {
		patterns = append(patterns, 1|1<<k, math.MaxUint32>>k)
	}
	for _, n := range []int{1, 2, 3, 4, 5, 40} {
		b := sample.Bytes(n, 9)
		s := crc.Sum(b)
		for at := range 8 * n {
			for _, p := range append(patterns, uint32(at)*2654435761|1) {
				if x := changed(b, at, p); crc.Sum(x) == s && !bytes.Equal(x, b) {
					t.Errorf("of %d bytes those from bit %d on changed by %#x: Sum is the same", n, at, p)
				}
			}
		}
	}
}

// P2.2: up to four bytes in a row, changed to others.
func TestBytesInARow(t *testing.T) {
	b := sample.Bytes(24, 10)
	s := crc.Sum(b)
	for size := 1; size <= 4; size++ {
		for at := range len(b) - size + 1 {
			for seed := range uint32(200) {
				x := bytes.Clone(b)
				copy(x[at:], sample.Bytes(size, seed))
				if same := bytes.Equal(x, b); (crc.Sum(x) == s) != same {
					t.Errorf("%d bytes from %d on changed to %x: Sum is the same", size, at, x[at:at+size])
				}
			}
		}
	}
}

// P2.2, of all changes: the Sum of a change in 32 bits hangs, bit by bit, on that
// of each of its bits alone, and no one of these 32 is made of the others.
func TestBitsApart(t *testing.T) {
	for _, n := range []int{4, 5, 33} {
		b := sample.Bytes(n, 11)
		s := crc.Sum(b)
		for at := range 8*n - 31 {
			var rows []uint32
			for k := range 32 {
				row := crc.Sum(changed(b, at, 1<<k)) ^ s
				for _, r := range rows {
					row = min(row, row^r)
				}
				if row == 0 {
					t.Fatalf("of %d bytes, from bit %d on: bit %d does what those ahead of it do", n, at, k)
				}
				rows = append(rows, row)
			}
		}
	}
}

// P2.1 and P2.2, of whatever bytes there are.
func FuzzOpen(f *testing.F) {
	for _, x := range known {
		f.Add([]byte(x.b), uint16(3), uint32(1))
		f.Add(crc.Seal([]byte(x.b)), uint16(3), uint32(1<<31))
	}
	f.Fuzz(func(t *testing.T, b []byte, at uint16, p uint32) {
		if s := crc.Sum(b); s != crc32.ChecksumIEEE(b) {
			t.Fatalf("Sum of %x: %#x", b, s)
		}
		if got, is := crc.Open(b); is && !bytes.Equal(crc.Seal(got), b) {
			t.Fatalf("Open of %x: %x, which is sealed as %x", b, got, crc.Seal(got))
		}
		if x := changed(b, int(at), p); !bytes.Equal(x, b) && crc.Sum(x) == crc.Sum(b) {
			t.Fatalf("Sum of %x is that of %x", x, b)
		}
	})
}
