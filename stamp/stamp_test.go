package stamp_test

import (
	"bytes"
	"encoding/binary"
	"math"
	"slices"
	"testing"

	"newsreel/api"
	"newsreel/sample"
	"newsreel/stamp"
)

// Numbers about each field's limits, and those that a byte might cut off.
var (
	physes   = []int64{math.MinInt64, -1 << 48, -256, -2, -1, 0, 1, 255, 256, 1<<32 - 1, 1 << 32, 1<<40 + 7, api.MaxPhys - 1, api.MaxPhys, api.MaxPhys + 1, math.MaxInt64 - 1, math.MaxInt64}
	logics   = []int{math.MinInt, -1 << 16, -1, 0, 1, 255, 256, api.MaxLogic - 1, api.MaxLogic, api.MaxLogic + 1, math.MaxInt}
	replicas = []int{math.MinInt, -64, -1, 0, 1, 62, 63, 64, 255, 256, 256 + 63, math.MaxInt}
)

// all: every stamp of these numbers.
func all() []api.Stamp {
	var l []api.Stamp
	for _, p := range physes {
		for _, g := range logics {
			for _, r := range replicas {
				l = append(l, api.Stamp{Phys: p, Logic: g, Replica: r})
			}
		}
	}
	return l
}

// right: Right of s, by another hand: no bit is set that a Right one can't have.
func right(s api.Stamp) bool {
	return uint64(s.Phys)>>48 == 0 && uint64(s.Logic)>>16 == 0 && uint64(s.Replica)>>6 == 0
}

// rights: those of l that are.
func rights(l []api.Stamp) []api.Stamp {
	return slices.DeleteFunc(l, func(s api.Stamp) bool { return !right(s) })
}

// key: bytes that stand as the stamps do, Right or not: 24 of them, by which 0 is in
// the middle of each field.
func key(s api.Stamp) string {
	var b []byte
	for _, v := range []int64{s.Phys, int64(s.Logic), int64(s.Replica)} {
		b = binary.BigEndian.AppendUint64(b, uint64(v)^1<<63)
	}
	return string(b)
}

// written: Bytes of s, a Right one, by another hand.
func written(s api.Stamp) []byte {
	b := binary.BigEndian.AppendUint64(nil, uint64(s.Phys)<<16|uint64(s.Logic))
	return append(b, byte(s.Replica))
}

// read: Read of b, by another hand.
func read(b []byte) (api.Stamp, api.Errno) {
	switch {
	case len(b) < 9:
		return api.Stamp{}, api.ErrShort
	case len(b) > 9, b[8] >= 64:
		return api.Stamp{}, api.ErrForm
	}
	v := binary.BigEndian.Uint64(b)
	return api.Stamp{Phys: int64(v >> 16), Logic: int(v & 0xffff), Replica: int(b[8])}, api.OK
}

// check: Right, Bytes, and Read of Bytes of s.
func check(t *testing.T, s api.Stamp) {
	t.Helper()
	if stamp.Right(s) != right(s) {
		t.Errorf("Right of %v: %v", s, !right(s))
	}
	b := stamp.Bytes(s)
	if !right(s) {
		if len(b) != 0 {
			t.Errorf("Bytes of %v, which isn't Right: %v", s, b)
		}
		return
	}
	if !bytes.Equal(b, written(s)) {
		t.Errorf("Bytes of %v: %v, not %v", s, b, written(s))
	}
	if again, errno := stamp.Read(b); again != s || errno != api.OK {
		t.Errorf("Read of Bytes of %v: %v, %d", s, again, errno)
	}
}

// checkOrder: Less and Max of a and b, both ways round, and the order of their bytes
// if they have some.
func checkOrder(t *testing.T, a, b api.Stamp) {
	t.Helper()
	less, more := key(a) < key(b), key(b) < key(a)
	if stamp.Less(a, b) != less || stamp.Less(b, a) != more {
		t.Errorf("Less of %v, %v: %v; and back: %v", a, b, stamp.Less(a, b), stamp.Less(b, a))
	}
	want := a
	if less {
		want = b
	}
	if m, back := stamp.Max(a, b), stamp.Max(b, a); m != want || back != want {
		t.Errorf("Max of %v, %v: %v; and back: %v", a, b, m, back)
	}
	if !right(a) || !right(b) {
		return
	}
	c := bytes.Compare(stamp.Bytes(a), stamp.Bytes(b))
	if (c < 0) != less || (c > 0) != more {
		t.Errorf("bytes of %v, %v: %d", a, b, c)
	}
}

// checkRead: what Read answers of b is want and errno, and what it reads is put as b.
func checkRead(t *testing.T, b []byte, want api.Stamp, errno api.Errno) {
	t.Helper()
	s, n := stamp.Read(b)
	if s != want || n != errno {
		t.Errorf("Read of %v: %v, %d, not %v, %d", b, s, n, want, errno)
	}
	if n == api.OK && !bytes.Equal(stamp.Bytes(s), b) {
		t.Errorf("Bytes of Read of %v: %v", b, stamp.Bytes(s))
	}
}

// P7.1: Right: each field at its limits and one past them, the others right.
func TestRight(t *testing.T) {
	for _, x := range []struct {
		s    api.Stamp
		want bool
	}{
		{api.Stamp{}, true},
		{api.Stamp{Phys: 1700000000000, Logic: 3, Replica: 5}, true},
		{api.Stamp{Phys: api.MaxPhys, Logic: api.MaxLogic, Replica: 63}, true},
		{api.Stamp{Phys: -1}, false},
		{api.Stamp{Phys: api.MaxPhys}, true},
		{api.Stamp{Phys: api.MaxPhys + 1}, false},
		{api.Stamp{Phys: math.MinInt64}, false},
		{api.Stamp{Phys: math.MaxInt64}, false},
		{api.Stamp{Logic: -1}, false},
		{api.Stamp{Logic: api.MaxLogic}, true},
		{api.Stamp{Logic: api.MaxLogic + 1}, false},
		{api.Stamp{Replica: -1}, false},
		{api.Stamp{Replica: 63}, true},
		{api.Stamp{Replica: 64}, false},
		{api.Stamp{Replica: 256}, false},
		{api.Stamp{Phys: api.MaxPhys + 1, Logic: api.MaxLogic + 1, Replica: 64}, false},
	} {
		if stamp.Right(x.s) != x.want {
			t.Errorf("Right of %v: %v", x.s, !x.want)
		}
		check(t, x.s)
	}
}

// P7.1, P7.2: all that fields at and about their limits make together.
func TestAll(t *testing.T) {
	for _, s := range all() {
		check(t, s)
	}
}

// P7.1: Less: by the first field that differs; a stamp isn't less than itself.
func TestLess(t *testing.T) {
	s := api.Stamp{Phys: 7, Logic: 7, Replica: 7}
	for _, x := range []struct {
		a, b api.Stamp
		want bool
	}{
		{s, s, false},
		{api.Stamp{}, api.Stamp{}, false},
		{api.Stamp{Phys: 6, Logic: 7, Replica: 7}, s, true},
		{api.Stamp{Phys: 7, Logic: 6, Replica: 7}, s, true},
		{api.Stamp{Phys: 7, Logic: 7, Replica: 6}, s, true},
		{api.Stamp{Phys: 6, Logic: 9, Replica: 9}, s, true},
		{api.Stamp{Phys: 7, Logic: 6, Replica: 9}, s, true},
		{api.Stamp{Phys: 8, Logic: 1, Replica: 1}, s, false},
		{api.Stamp{Phys: 7, Logic: 8, Replica: 1}, s, false},
		{api.Stamp{Phys: 6, Logic: 9, Replica: 1}, s, true},
		{api.Stamp{Phys: 8, Logic: 1, Replica: 9}, s, false},
		// Of these two the difference fits no int64.
		{api.Stamp{Phys: math.MinInt64}, api.Stamp{Phys: math.MaxInt64}, true},
		{api.Stamp{Logic: math.MinInt}, api.Stamp{Logic: math.MaxInt}, true},
		{api.Stamp{Replica: math.MinInt}, api.Stamp{Replica: math.MaxInt}, true},
		{api.Stamp{Phys: -1}, api.Stamp{}, true},
		{api.Stamp{Replica: 256}, api.Stamp{Replica: 64}, false},
	} {
		if stamp.Less(x.a, x.b) != x.want {
			t.Errorf("Less of %v, %v: %v", x.a, x.b, !x.want)
		}
		checkOrder(t, x.a, x.b)
	}
}

// P7.1, P7.3: each of many stamps, Right or not, beside each.
func TestOrder(t *testing.T) {
	l := all()
	for i, a := range l {
		// Each of a list this long beside each would be long; each beside some is enough.
		for k := i % 7; k < len(l); k += 7 {
			checkOrder(t, a, l[k])
		}
	}
	l = rights(l)
	for _, a := range l {
		for _, b := range l {
			checkOrder(t, a, b)
		}
	}
}

// P7.1: Max: the greatest wherever it stands; of none zero.
func TestMax(t *testing.T) {
	if m := stamp.Max(); m != (api.Stamp{}) {
		t.Errorf("Max of none: %v", m)
	}
	if m := stamp.Max([]api.Stamp{}...); m != (api.Stamp{}) {
		t.Errorf("Max of an empty list: %v", m)
	}
	for _, s := range all() {
		if m := stamp.Max(s); m != s {
			t.Errorf("Max of %v: %v", s, m)
		}
		if m := stamp.Max(s, s, s, s); m != s {
			t.Errorf("Max of four times %v: %v", s, m)
		}
	}
	checkMax(t, []api.Stamp{{Phys: 5}, {Phys: 4, Logic: 9}, {Phys: 4, Replica: 9}, {}}, api.Stamp{Phys: 5})
	checkMax(t, []api.Stamp{{Phys: 5, Logic: 1}, {Phys: 5, Replica: 9}, {Phys: 5}}, api.Stamp{Phys: 5, Logic: 1})
	checkMax(t, []api.Stamp{{Phys: 5, Logic: 1, Replica: 1}, {Phys: 5, Logic: 1}, {Phys: 5, Logic: 1, Replica: 1}}, api.Stamp{Phys: 5, Logic: 1, Replica: 1})
	// Below zero all of them: zero isn't there.
	checkMax(t, []api.Stamp{{Phys: -5}, {Phys: -5, Logic: -1}, {Phys: -6, Logic: 9}, {Phys: math.MinInt64}}, api.Stamp{Phys: -5})
	checkMax(t, []api.Stamp{{Phys: math.MaxInt64, Logic: -1}, {Phys: math.MaxInt64, Logic: -2, Replica: 99}, {Phys: math.MinInt64}}, api.Stamp{Phys: math.MaxInt64, Logic: -1})
	l := all()
	checkMax(t, l, api.Stamp{Phys: math.MaxInt64, Logic: math.MaxInt, Replica: math.MaxInt})
	checkMax(t, rights(l), api.Stamp{Phys: api.MaxPhys, Logic: api.MaxLogic, Replica: 63})
}

// checkMax: Max of l is want, with each of l first, in the middle and last.
func checkMax(t *testing.T, l []api.Stamp, want api.Stamp) {
	t.Helper()
	for i := range l {
		turned := slices.Concat(l[i:], l[:i])
		if m := stamp.Max(turned...); m != want {
			t.Errorf("Max of %d stamps from number %d on: %v, not %v", len(l), i, m, want)
		}
	}
}

// P7.2: Bytes: the highest byte of each field first.
func TestBytes(t *testing.T) {
	for _, x := range []struct {
		s api.Stamp
		b []byte
	}{
		{api.Stamp{}, make([]byte, 9)},
		{api.Stamp{Phys: 1, Logic: 2, Replica: 3}, []byte{0, 0, 0, 0, 0, 1, 0, 2, 3}},
		{api.Stamp{Phys: 0x010203040506, Logic: 0x0708, Replica: 9}, []byte{1, 2, 3, 4, 5, 6, 7, 8, 9}},
		{api.Stamp{Phys: 256, Logic: 256, Replica: 1}, []byte{0, 0, 0, 0, 1, 0, 1, 0, 1}},
		{api.Stamp{Phys: api.MaxPhys}, []byte{255, 255, 255, 255, 255, 255, 0, 0, 0}},
		{api.Stamp{Logic: api.MaxLogic}, []byte{0, 0, 0, 0, 0, 0, 255, 255, 0}},
		{api.Stamp{Replica: 63}, []byte{0, 0, 0, 0, 0, 0, 0, 0, 63}},
		{api.Stamp{Phys: -1}, nil},
		{api.Stamp{Phys: api.MaxPhys + 1}, nil},
		{api.Stamp{Logic: -1}, nil},
		{api.Stamp{Logic: api.MaxLogic + 1}, nil},
		{api.Stamp{Replica: -1}, nil},
		{api.Stamp{Replica: 64}, nil},
		{api.Stamp{Replica: 256}, nil},
	} {
		if b := stamp.Bytes(x.s); !bytes.Equal(b, x.b) {
			t.Errorf("Bytes of %v: %v, not %v", x.s, b, x.b)
		}
		if x.b != nil {
			checkRead(t, x.b, x.s, api.OK)
		}
	}
}

// P7.2: Read: too few bytes, too many, and each last byte there is.
func TestRead(t *testing.T) {
	checkRead(t, nil, api.Stamp{}, api.ErrShort)
	b := []byte{1, 2, 3, 4, 5, 6, 7, 8, 9, 10, 11, 12, 13, 14, 15, 16, 17, 18}
	for n := range b {
		switch {
		case n < 9:
			checkRead(t, b[:n], api.Stamp{}, api.ErrShort)
		case n > 9:
			checkRead(t, b[:n], api.Stamp{}, api.ErrForm)
		default:
			checkRead(t, b[:n], api.Stamp{Phys: 0x010203040506, Logic: 0x0708, Replica: 9}, api.OK)
		}
	}
	for r := range 256 {
		b := []byte{0, 0, 0, 0, 0, 7, 0, 5, byte(r)}
		if r < 64 {
			checkRead(t, b, api.Stamp{Phys: 7, Logic: 5, Replica: r}, api.OK)
		} else {
			checkRead(t, b, api.Stamp{}, api.ErrForm)
		}
		// What is too long, or too short, is so whatever the ninth byte is.
		checkRead(t, append(b, 0), api.Stamp{}, api.ErrForm)
		checkRead(t, b[1:], api.Stamp{}, api.ErrShort)
	}
	full := bytes.Repeat([]byte{255}, 10)
	checkRead(t, full[:8], api.Stamp{}, api.ErrShort)
	checkRead(t, full[:9], api.Stamp{}, api.ErrForm)
	checkRead(t, full, api.Stamp{}, api.ErrForm)
	checkRead(t, append(full[:8:8], 63), api.Stamp{Phys: api.MaxPhys, Logic: api.MaxLogic, Replica: 63}, api.OK)
}

// P7.2, P7.3: many bytes of all kinds: each is read as by another hand, and what is
// read stands as the bytes do.
func TestMany(t *testing.T) {
	var last []byte
	for seed := range uint32(20000) {
		b := sample.Bytes(9, seed)
		if seed%4 > 0 {
			b[8] %= 64
		}
		want, errno := read(b)
		checkRead(t, b, want, errno)
		if errno != api.OK {
			continue
		}
		if last != nil {
			// Many of the first bytes alike, so that the later ones tell too.
			copy(last, b[:seed%9])
			a, _ := stamp.Read(last)
			if stamp.Less(a, want) != (bytes.Compare(last, b) < 0) {
				t.Errorf("Less of %v, %v: not as of %v, %v", a, want, last, b)
			}
			checkOrder(t, a, want)
		}
		last = b
	}
}

// Rule 3: what is handed in stays, the room behind it too; what is answered is new
// memory.
func TestKeptApart(t *testing.T) {
	l := []api.Stamp{{Phys: 3}, {Phys: 1}, {Phys: 2}, {Phys: 9}, {Phys: 8}}
	was := slices.Clone(l)
	if m := stamp.Max(l[:3]...); m != l[0] {
		t.Errorf("Max: %v", m)
	}
	if !slices.Equal(l, was) {
		t.Errorf("Max changed its list: %v", l)
	}

	b := []byte{0, 0, 0, 0, 0, 1, 0, 2, 3, 77, 78}
	kept := bytes.Clone(b)
	for n := range b {
		stamp.Read(b[:n])
	}
	if !bytes.Equal(b, kept) {
		t.Errorf("Read changed its bytes: %v", b)
	}

	s := api.Stamp{Phys: 1, Logic: 2, Replica: 3}
	first, second := stamp.Bytes(s), stamp.Bytes(s)
	for i := range first {
		first[i] = 255
	}
	_ = append(first, 255)
	third := stamp.Bytes(s)
	if !bytes.Equal(second, written(s)) || !bytes.Equal(third, written(s)) {
		t.Errorf("Bytes share memory: %v, %v", second, third)
	}
	again, _ := stamp.Read(second)
	clear(second)
	if again != s {
		t.Errorf("Read shares memory: %v", again)
	}
}

// P7.1, P7.2, P7.3: whatever stamps there are.
func FuzzStamps(f *testing.F) {
	for _, p := range physes {
		f.Add(p, 1, 2, int64(5), 6, 7)
	}
	for _, g := range logics {
		f.Add(int64(1), g, 2, int64(1), 2, 3)
	}
	for _, r := range replicas {
		f.Add(int64(1), 2, r, int64(1), 2, 3)
	}
	f.Fuzz(func(t *testing.T, p int64, g, r int, p2 int64, g2, r2 int) {
		a, b := api.Stamp{Phys: p, Logic: g, Replica: r}, api.Stamp{Phys: p2, Logic: g2, Replica: r2}
		check(t, a)
		check(t, b)
		checkOrder(t, a, b)
		checkOrder(t, a, a)
	})
}

// P7.2: whatever bytes there are: an error, or the stamp that is put as just these.
func FuzzRead(f *testing.F) {
	for n := range 12 {
		f.Add(sample.Bytes(n, 1))
		f.Add(bytes.Repeat([]byte{255}, n))
	}
	f.Fuzz(func(t *testing.T, b []byte) {
		want, errno := read(b)
		checkRead(t, b, want, errno)
	})
}
