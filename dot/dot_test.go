package dot_test

import (
	"bytes"
	"encoding/binary"
	"math"
	"slices"
	"testing"

	"newsreel/api"
	"newsreel/dot"
	"newsreel/sample"
)

// Numbers about each field's limits, those at which a Seq becomes a byte longer, and
// those that a byte might cut off.
var (
	replicas = []int{math.MinInt, -256, -1, 0, 1, 2, 62, 63, 64, 127, 128, 255, 256, 256 + 63, math.MaxInt}
	seqs     = []int64{math.MinInt64, -1 << 40, -2, -1, 0, 1, 2, 127, 128, 300, 1<<14 - 1, 1 << 14, 1<<21 - 1, 1 << 21, 1<<28 - 1, 1 << 28, 1<<32 + 1, 1<<35 - 1, 1 << 35, api.MaxSeq - 1, api.MaxSeq, api.MaxSeq + 1, api.MaxSeq + 2, 1<<48 + 5, math.MaxInt64 - 1, math.MaxInt64}
)

func at(replica int, seq int64) api.Dot { return api.Dot{Replica: replica, Seq: seq} }

// all: every dot of these numbers.
func all() []api.Dot {
	var l []api.Dot
	for _, r := range replicas {
		for _, s := range seqs {
			l = append(l, at(r, s))
		}
	}
	return l
}

// rights: those of all that are Right, rising.
func rights() []api.Dot {
	return slices.DeleteFunc(all(), func(d api.Dot) bool { return !right(d) })
}

// right: Right of d, by another hand: no bit is set that a Right one can't have, and
// its Seq isn't 0.
func right(d api.Dot) bool {
	return uint64(d.Replica)>>6 == 0 && uint64(d.Seq)>>40 == 0 && d.Seq != 0
}

// key: bytes that stand as the dots do, Right or not: 16 of them, by which 0 is in the
// middle of each field.
func key(d api.Dot) string {
	b := binary.BigEndian.AppendUint64(nil, uint64(d.Replica)^1<<63)
	return string(binary.BigEndian.AppendUint64(b, uint64(d.Seq)^1<<63))
}

// rising: whether each of l is above the one ahead, by another hand.
func rising(l []api.Dot) bool {
	for i := range l {
		if i > 0 && key(l[i-1]) >= key(l[i]) {
			return false
		}
	}
	return true
}

// written: Bytes of d, a Right one, by another hand.
func written(d api.Dot) []byte {
	return binary.AppendUvarint([]byte{byte(d.Replica)}, uint64(d.Seq))
}

// listed: Put of l, whether it may be put or not, by another hand.
func listed(l ...api.Dot) []byte {
	b := binary.AppendUvarint(nil, uint64(len(l)))
	for _, d := range l {
		b = append(b, written(d)...)
	}
	return b
}

// number: num.Take of b, by another hand.
func number(b []byte) (uint64, int, api.Errno) {
	v, n := binary.Uvarint(b)
	switch {
	case n == 0 && len(b) < 10:
		return 0, 0, api.ErrShort
	case n <= 0, n > 1 && b[n-1] == 0:
		return 0, 0, api.ErrForm
	}
	return v, n, api.OK
}

// take: Take of b, by another hand.
func take(b []byte) (api.Dot, int, api.Errno) {
	switch {
	case len(b) == 0:
		return api.Dot{}, 0, api.ErrShort
	case b[0]&0xc0 != 0:
		return api.Dot{}, 0, api.ErrForm
	}
	v, n, errno := number(b[1:])
	switch {
	case errno != api.OK:
		return api.Dot{}, 0, errno
	case v == 0, v>>40 != 0:
		return api.Dot{}, 0, api.ErrForm
	}
	return at(int(b[0]), int64(v)), 1 + n, api.OK
}

// takeAll: TakeAll of b, by another hand.
func takeAll(b []byte) ([]api.Dot, int, api.Errno) {
	count, size, errno := number(b)
	switch {
	case errno != api.OK:
		return nil, 0, errno
	case count > 16:
		return nil, 0, api.ErrForm
	}
	var l []api.Dot
	for i := 0; i < int(count); i++ {
		d, n, errno := take(b[size:])
		if errno != api.OK {
			return nil, 0, errno
		}
		if l = append(l, d); !rising(l) {
			return nil, 0, api.ErrForm
		}
		size += n
	}
	return l, size, api.OK
}

// check: Right, Bytes, and Take of Bytes of d.
func check(t *testing.T, d api.Dot) {
	t.Helper()
	if dot.Right(d) != right(d) {
		t.Errorf("Right of %v: %v", d, !right(d))
	}
	b := dot.Bytes(d)
	if !right(d) {
		if len(b) != 0 {
			t.Errorf("Bytes of %v, which isn't Right: %v", d, b)
		}
		return
	}
	if !bytes.Equal(b, written(d)) {
		t.Errorf("Bytes of %v: %v, not %v", d, b, written(d))
	}
	if again, n, e := dot.Take(b); again != d || n != len(b) || e != api.OK {
		t.Errorf("Take of Bytes of %v: %v, %d, %d", d, again, n, e)
	}
}

// checkLess: Less of a and b, both ways round.
func checkLess(t *testing.T, a, b api.Dot) {
	t.Helper()
	if less := dot.Less(a, b); less != (key(a) < key(b)) {
		t.Errorf("Less of %v, %v: %v", a, b, less)
	}
	if less := dot.Less(b, a); less != (key(b) < key(a)) {
		t.Errorf("Less of %v, %v: %v", b, a, less)
	}
}

// checkSort: what Sort answers of l rises, has each dot of l and no other one; l stays.
func checkSort(t *testing.T, l []api.Dot) {
	t.Helper()
	was := slices.Clone(l)
	out := dot.Sort(l...)
	if !slices.Equal(l, was) {
		t.Fatalf("Sort changed %v to %v", was, l)
	}
	if !rising(out) {
		t.Fatalf("Sort of %v doesn't rise: %v", l, out)
	}
	in, got := map[api.Dot]int{}, map[api.Dot]int{}
	for _, d := range l {
		in[d]++
	}
	for _, d := range out {
		got[d]++
		if in[d] == 0 {
			t.Fatalf("Sort of %v: %v is none of them", l, d)
		}
	}
	if len(in) != len(got) {
		t.Fatalf("Sort of %v: %v", l, out)
	}
}

// checkTake: Take of b is as by another hand; what is taken is put as just these bytes.
func checkTake(t *testing.T, b []byte) {
	t.Helper()
	want, size, errno := take(b)
	d, n, e := dot.Take(b)
	if d != want || n != size || e != errno {
		t.Fatalf("Take of %v: %v, %d, %d, not %v, %d, %d", b, d, n, e, want, size, errno)
	}
	if e == api.OK && !bytes.Equal(dot.Bytes(d), b[:n]) {
		t.Fatalf("Bytes of Take of %v: %v", b, dot.Bytes(d))
	}
}

// checkTakeAll: TakeAll of b is as by another hand; what is taken is put as just these
// bytes.
func checkTakeAll(t *testing.T, b []byte) {
	t.Helper()
	want, size, errno := takeAll(b)
	l, n, e := dot.TakeAll(b)
	if !slices.Equal(l, want) || n != size || e != errno {
		t.Fatalf("TakeAll of %v: %v, %d, %d, not %v, %d, %d", b, l, n, e, want, size, errno)
	}
	if e == api.OK && !bytes.Equal(dot.Put(l...), b[:n]) {
		t.Fatalf("Put of TakeAll of %v: %v", b, dot.Put(l...))
	}
}

// checkPut: Put of l is as by another hand; what is put is taken.
func checkPut(t *testing.T, l []api.Dot) {
	t.Helper()
	b := dot.Put(l...)
	if len(l) > 16 || !rising(l) || slices.ContainsFunc(l, func(d api.Dot) bool { return !right(d) }) {
		if len(b) != 0 {
			t.Fatalf("Put of %v: %v", l, b)
		}
		return
	}
	if !bytes.Equal(b, listed(l...)) {
		t.Fatalf("Put of %v: %v, not %v", l, b, listed(l...))
	}
	if again, n, e := dot.TakeAll(b); !slices.Equal(again, l) || n != len(b) || e != api.OK {
		t.Fatalf("TakeAll of Put of %v: %v, %d, %d", l, again, n, e)
	}
}

// row: n dots that rise, over several replicas, with Seqs of several lengths.
func row(n int) []api.Dot {
	var l []api.Dot
	for i := range n {
		l = append(l, at(i/3*12, 1<<(i%3*9)+int64(i)))
	}
	return l
}

// P9.1: Right: each field at its limits and one past them, the other one right.
func TestRight(t *testing.T) {
	for _, x := range []struct {
		d    api.Dot
		want bool
	}{
		{api.Dot{}, false},
		{at(3, 300), true},
		{at(-1, 1), false},
		{at(0, 1), true},
		{at(63, 1), true},
		{at(64, 1), false},
		{at(256, 1), false},
		{at(256+63, 1), false},
		{at(math.MinInt, 1), false},
		{at(math.MaxInt, 1), false},
		{at(5, -1), false},
		{at(5, 0), false},
		{at(5, 1), true},
		{at(5, api.MaxSeq), true},
		{at(5, api.MaxSeq+1), false},
		{at(5, math.MinInt64), false},
		{at(5, math.MaxInt64), false},
		{at(63, api.MaxSeq), true},
		{at(64, api.MaxSeq+1), false},
		{at(-1, 0), false},
	} {
		if dot.Right(x.d) != x.want {
			t.Errorf("Right of %v: %v", x.d, !x.want)
		}
		check(t, x.d)
	}
}

// P9.1, P9.2: all that fields at and about their limits make together.
func TestAll(t *testing.T) {
	for _, d := range all() {
		check(t, d)
		checkPut(t, []api.Dot{d})
	}
}

// P9.1: Less: by Replica, then by Seq; a dot isn't less than itself; of dots that aren't
// Right too.
func TestLess(t *testing.T) {
	for _, x := range []struct {
		a, b api.Dot
		want bool
	}{
		{at(3, 3), at(3, 3), false},
		{api.Dot{}, api.Dot{}, false},
		{at(3, 2), at(3, 3), true},
		{at(3, 3), at(3, 2), false},
		{at(2, 3), at(3, 3), true},
		{at(2, 9), at(3, 1), true},
		{at(3, 1), at(2, 9), false},
		{at(2, api.MaxSeq), at(3, 1), true},
		{at(3, 127), at(3, 128), true},
		{at(3, 255), at(3, 256), true},
		{at(9, 1), at(10, 1), true},
		{api.Dot{}, at(0, 1), true},
		{at(-1, 9), at(0, 1), true},
		{at(3, -1), at(3, 0), true},
		{at(3, api.MaxSeq), at(3, api.MaxSeq+1), true},
		{at(64, -5), at(63, 5), false},
		{at(64, 1), at(256, 1), true},
		// Of these two the difference fits no int64.
		{at(0, math.MinInt64), at(0, math.MaxInt64), true},
		{at(0, math.MaxInt64), at(0, math.MinInt64), false},
		{at(math.MinInt, 1), at(math.MaxInt, 1), true},
		{at(math.MaxInt, 1), at(math.MinInt, 1), false},
	} {
		if dot.Less(x.a, x.b) != x.want {
			t.Errorf("Less of %v, %v: %v", x.a, x.b, !x.want)
		}
		checkLess(t, x.a, x.b)
	}
	l := all()
	for _, a := range l {
		for _, b := range l {
			checkLess(t, a, b)
		}
	}
}

// P9.1: Sort: of none, of one, of dots that are there several times, rising, falling and
// mixed, Right or not.
func TestSort(t *testing.T) {
	a, b, c := at(0, 5), at(1, 2), at(1, 3)
	for _, x := range []struct{ in, want []api.Dot }{
		{nil, nil},
		{[]api.Dot{}, nil},
		{[]api.Dot{a}, []api.Dot{a}},
		{[]api.Dot{{}}, []api.Dot{{}}},
		{[]api.Dot{a, a}, []api.Dot{a}},
		{[]api.Dot{a, a, a, a, a}, []api.Dot{a}},
		{[]api.Dot{a, b, c}, []api.Dot{a, b, c}},
		{[]api.Dot{c, b, a}, []api.Dot{a, b, c}},
		{[]api.Dot{b, a, c, a, b, c, b}, []api.Dot{a, b, c}},
		{[]api.Dot{a, a, b, c, c, c}, []api.Dot{a, b, c}},
		{[]api.Dot{c, c, b, a, a, a}, []api.Dot{a, b, c}},
		// These have a Replica, or a Seq, alike, and aren't the same.
		{[]api.Dot{at(2, 7), at(1, 7), at(2, 7), at(2, 6)}, []api.Dot{at(1, 7), at(2, 6), at(2, 7)}},
		// Those that aren't Right are kept, each once too.
		{[]api.Dot{at(64, 0), a, at(-1, 9), {}, at(64, 0), {}, at(0, -1)}, []api.Dot{at(-1, 9), at(0, -1), {}, a, at(64, 0)}},
	} {
		if out := dot.Sort(x.in...); !slices.Equal(out, x.want) {
			t.Errorf("Sort of %v: %v, not %v", x.in, out, x.want)
		}
		checkSort(t, x.in)
	}
	if out := dot.Sort(); len(out) != 0 {
		t.Errorf("Sort of no argument: %v", out)
	}
	if out := dot.Sort(c, a, c, b); !slices.Equal(out, []api.Dot{a, b, c}) {
		t.Errorf("Sort of four arguments: %v", out)
	}
	l := all()
	checkSort(t, l)
	slices.Reverse(l)
	checkSort(t, l)
	checkSort(t, append(l, all()...))
}

// P9.1: Sort: of long lists of few dots and of many.
func TestSortMany(t *testing.T) {
	for seed := range uint32(300) {
		var l []api.Dot
		b := sample.Bytes(int(seed)*4, seed)
		for ; len(b) >= 2; b = b[2:] {
			l = append(l, at(int(b[0])%(1+int(seed)%67)-1, int64(b[1])%(1+int64(seed)%40)-1))
		}
		checkSort(t, l)
	}
}

// P9.2: Bytes: a byte, then the Seq's digits; none of a dot that isn't Right.
func TestBytes(t *testing.T) {
	for _, x := range []struct {
		d    api.Dot
		want []byte
	}{
		{at(3, 300), []byte{3, 172, 2}},
		{at(0, 1), []byte{0, 1}},
		{at(63, 127), []byte{63, 127}},
		{at(63, 128), []byte{63, 128, 1}},
		{at(1, 1<<14), []byte{1, 128, 128, 1}},
		{at(1, 1<<35), []byte{1, 128, 128, 128, 128, 128, 1}},
		{at(5, api.MaxSeq), []byte{5, 255, 255, 255, 255, 255, 31}},
		{api.Dot{}, nil},
		{at(-1, 1), nil},
		{at(64, 1), nil},
		{at(256, 1), nil},
		{at(1, 0), nil},
		{at(1, -1), nil},
		{at(1, api.MaxSeq+1), nil},
		{at(1, math.MinInt64), nil},
		{at(1, math.MaxInt64), nil},
		{at(math.MinInt, 1), nil},
		{at(math.MaxInt, 1), nil},
	} {
		if b := dot.Bytes(x.d); !bytes.Equal(b, x.want) {
			t.Errorf("Bytes of %v: %v, not %v", x.d, b, x.want)
		}
	}
}

// P9.2: Take: what stands at the beginning, whatever is behind it, and each error.
func TestTake(t *testing.T) {
	full := bytes.Repeat([]byte{255}, 20)
	for _, x := range []struct {
		b    []byte
		want api.Dot
		n    int
		e    api.Errno
	}{
		{nil, api.Dot{}, 0, api.ErrShort},
		{[]byte{}, api.Dot{}, 0, api.ErrShort},
		// A Replica above 63, whatever is behind it.
		{[]byte{63, 1}, at(63, 1), 2, api.OK},
		{[]byte{64, 1}, api.Dot{}, 0, api.ErrForm},
		{[]byte{64}, api.Dot{}, 0, api.ErrForm},
		{[]byte{64, 128}, api.Dot{}, 0, api.ErrForm},
		{[]byte{128, 1}, api.Dot{}, 0, api.ErrForm},
		{[]byte{255}, api.Dot{}, 0, api.ErrForm},
		// A Seq that ends too early.
		{[]byte{0}, api.Dot{}, 0, api.ErrShort},
		{[]byte{63}, api.Dot{}, 0, api.ErrShort},
		{[]byte{1, 128}, api.Dot{}, 0, api.ErrShort},
		{[]byte{1, 255, 255, 255, 255, 255}, api.Dot{}, 0, api.ErrShort},
		{append([]byte{1}, full[:9]...), api.Dot{}, 0, api.ErrShort},
		{append([]byte{1}, full[:10]...), api.Dot{}, 0, api.ErrForm},
		{append([]byte{1}, full...), api.Dot{}, 0, api.ErrForm},
		// One of more bytes than it needs.
		{[]byte{1, 129, 0}, api.Dot{}, 0, api.ErrForm},
		{[]byte{1, 128, 0}, api.Dot{}, 0, api.ErrForm},
		{[]byte{1, 255, 128, 0}, api.Dot{}, 0, api.ErrForm},
		{[]byte{1, 255, 255, 255, 255, 255, 159, 0}, api.Dot{}, 0, api.ErrForm},
		// One below and above its limits.
		{[]byte{1, 0}, api.Dot{}, 0, api.ErrForm},
		{[]byte{1, 1}, at(1, 1), 2, api.OK},
		{[]byte{1, 254, 255, 255, 255, 255, 31}, at(1, api.MaxSeq-1), 7, api.OK},
		{[]byte{1, 255, 255, 255, 255, 255, 31}, at(1, api.MaxSeq), 7, api.OK},
		{[]byte{1, 128, 128, 128, 128, 128, 32}, api.Dot{}, 0, api.ErrForm},
		{binary.AppendUvarint([]byte{1}, 1<<56+1), api.Dot{}, 0, api.ErrForm},
		{binary.AppendUvarint([]byte{1}, math.MaxInt64), api.Dot{}, 0, api.ErrForm},
		{binary.AppendUvarint([]byte{1}, 1<<63), api.Dot{}, 0, api.ErrForm},
		{binary.AppendUvarint([]byte{1}, 1<<63+1), api.Dot{}, 0, api.ErrForm},
		{binary.AppendUvarint([]byte{1}, math.MaxUint64), api.Dot{}, 0, api.ErrForm},
		// More bytes than the dot's.
		{[]byte{3, 172, 2, 0}, at(3, 300), 3, api.OK},
		{[]byte{3, 172, 2, 64, 255}, at(3, 300), 3, api.OK},
		{append([]byte{0, 127}, full...), at(0, 127), 2, api.OK},
	} {
		if d, n, e := dot.Take(x.b); d != x.want || n != x.n || e != x.e {
			t.Errorf("Take of %v: %v, %d, %d, not %v, %d, %d", x.b, d, n, e, x.want, x.n, x.e)
		}
		checkTake(t, x.b)
	}
}

// P9.2, P9.3: of a dot's bytes any that aren't all of them are too few; all of them are
// enough, whatever is behind.
func TestTakeCut(t *testing.T) {
	for _, d := range rights() {
		b := written(d)
		for k := range b {
			// The bytes behind the cut are room, not bytes.
			if got, n, e := dot.Take(b[:k]); got != (api.Dot{}) || n != 0 || e != api.ErrShort {
				t.Errorf("Take of %v: %v, %d, %d", b[:k], got, n, e)
			}
		}
		for _, behind := range [][]byte{{0}, {1}, {64}, {128, 0}, bytes.Repeat([]byte{255}, 12)} {
			if got, n, e := dot.Take(slices.Concat(b, behind)); got != d || n != len(b) || e != api.OK {
				t.Errorf("Take of %v and %v: %v, %d, %d", b, behind, got, n, e)
			}
		}
	}
}

// P9.2: Put: how many, and the bytes of each.
func TestPut(t *testing.T) {
	for _, x := range []struct {
		l    []api.Dot
		want []byte
	}{
		{nil, []byte{0}},
		{[]api.Dot{}, []byte{0}},
		{[]api.Dot{at(3, 300)}, []byte{1, 3, 172, 2}},
		{[]api.Dot{at(0, 1), at(0, 2), at(1, 1)}, []byte{3, 0, 1, 0, 2, 1, 1}},
		{[]api.Dot{at(0, api.MaxSeq), at(63, 1)}, []byte{2, 0, 255, 255, 255, 255, 255, 31, 63, 1}},
		// One that isn't Right, wherever it stands, although they rise.
		{[]api.Dot{{}}, nil},
		{[]api.Dot{at(-1, 1)}, nil},
		{[]api.Dot{at(-1, 1), at(0, 1)}, nil},
		{[]api.Dot{at(0, 0), at(0, 1)}, nil},
		{[]api.Dot{at(0, 1), at(1, 0), at(1, 1)}, nil},
		{[]api.Dot{at(0, 1), at(0, api.MaxSeq+1), at(1, 1)}, nil},
		{[]api.Dot{at(0, 1), at(0, api.MaxSeq+1)}, nil},
		{[]api.Dot{at(0, 1), at(64, 1)}, nil},
		{[]api.Dot{at(0, 1), at(256, 1)}, nil},
		// Two that are the same.
		{[]api.Dot{at(0, 1), at(0, 1)}, nil},
		{[]api.Dot{at(0, 1), at(0, 2), at(0, 2)}, nil},
		{[]api.Dot{at(0, 1), at(0, 1), at(0, 2)}, nil},
		// Two that fall.
		{[]api.Dot{at(0, 2), at(0, 1)}, nil},
		{[]api.Dot{at(1, 1), at(0, 5)}, nil},
		{[]api.Dot{at(0, 1), at(2, 1), at(1, 9)}, nil},
		{[]api.Dot{at(0, 2), at(0, 1), at(0, 3)}, nil},
	} {
		if b := dot.Put(x.l...); !bytes.Equal(b, x.want) {
			t.Errorf("Put of %v: %v, not %v", x.l, b, x.want)
		}
		checkPut(t, x.l)
	}
	if b := dot.Put(); !bytes.Equal(b, []byte{0}) {
		t.Errorf("Put of no argument: %v", b)
	}
}

// P9.2: Put and TakeAll: of any number of dots, up to MaxSeen and beyond; with one of
// them spoilt, or two of them swapped, none.
func TestPutMany(t *testing.T) {
	for n := range 2*api.MaxSeen + 2 {
		l := row(n)
		b := dot.Put(l...)
		if (len(b) > 0) != (n <= api.MaxSeen) {
			t.Fatalf("Put of %d dots: %v", n, b)
		}
		checkPut(t, l)
		for i := range l {
			for k := range i {
				l[i], l[k] = l[k], l[i]
				checkPut(t, l)
				l[i], l[k] = l[k], l[i]
			}
			was := l[i]
			for _, d := range []api.Dot{{}, at(was.Replica, 0), at(was.Replica, -was.Seq), at(was.Replica, api.MaxSeq+1), at(-1, was.Seq), at(64, was.Seq), l[0], l[n-1], l[max(i-1, 0)]} {
				l[i] = d
				checkPut(t, l)
			}
			l[i] = was
		}
	}
}

// P9.2: Put and TakeAll: each list of up to three of these dots.
func TestPutAllShort(t *testing.T) {
	l := []api.Dot{{}, at(0, 1), at(0, 2), at(0, api.MaxSeq), at(0, api.MaxSeq+1), at(1, -1), at(1, 0), at(1, 1), at(63, 300), at(64, 1), at(-1, 1)}
	for _, a := range l {
		checkPut(t, []api.Dot{a})
		for _, b := range l {
			checkPut(t, []api.Dot{a, b})
			for _, c := range l {
				checkPut(t, []api.Dot{a, b, c})
			}
		}
	}
}

// P9.2: TakeAll: each list that may stand at the beginning, and what is behind it.
func TestTakeAll(t *testing.T) {
	for n := range api.MaxSeen + 1 {
		l := row(n)
		b := listed(l...)
		for _, behind := range [][]byte{nil, {0}, {64}, {99, 99}, {128, 0}, bytes.Repeat([]byte{255}, 12), written(at(63, 1)), written(at(0, 1))} {
			got, size, e := dot.TakeAll(slices.Concat(b, behind))
			if !slices.Equal(got, l) || size != len(b) || e != api.OK {
				t.Errorf("TakeAll of %v and %v: %v, %d, %d", l, behind, got, size, e)
			}
		}
		for k := range b {
			if got, size, e := dot.TakeAll(b[:k]); len(got) != 0 || size != 0 || e != api.ErrShort {
				t.Errorf("TakeAll of %d bytes of %v: %v, %d, %d", k, b, got, size, e)
			}
		}
	}
}

// P9.2: TakeAll: each error, and each one ahead of a later one.
func TestTakeAllRefuses(t *testing.T) {
	tooMany := listed(row(api.MaxSeen + 1)...)
	full := bytes.Repeat([]byte{255}, 20)
	for _, x := range []struct {
		b []byte
		e api.Errno
	}{
		{nil, api.ErrShort},
		{[]byte{}, api.ErrShort},
		// The count: it ends too early, it isn't so written, it is too great.
		{[]byte{128}, api.ErrShort},
		{full[:9], api.ErrShort},
		{full[:10], api.ErrForm},
		{full, api.ErrForm},
		{[]byte{128, 0}, api.ErrForm},
		{[]byte{129, 0, 0, 1}, api.ErrForm},
		{[]byte{144, 128, 0}, api.ErrForm},
		{tooMany, api.ErrForm},
		{tooMany[:1], api.ErrForm},
		{[]byte{127}, api.ErrForm},
		{[]byte{128, 1}, api.ErrForm},
		{[]byte{145, 1}, api.ErrForm},
		{binary.AppendUvarint(nil, 1<<32+1), api.ErrForm},
		{binary.AppendUvarint(nil, 1<<63), api.ErrForm},
		{binary.AppendUvarint(nil, math.MaxUint64), api.ErrForm},
		// Fewer dots than it says.
		{[]byte{1}, api.ErrShort},
		{[]byte{16}, api.ErrShort},
		{[]byte{2, 0, 1}, api.ErrShort},
		{[]byte{2, 0, 1, 0}, api.ErrShort},
		{[]byte{2, 0, 1, 0, 130}, api.ErrShort},
		// A dot that is none.
		{[]byte{1, 64}, api.ErrForm},
		{[]byte{1, 0, 0}, api.ErrForm},
		{[]byte{1, 0, 129, 0}, api.ErrForm},
		{[]byte{2, 0, 1, 64}, api.ErrForm},
		{[]byte{2, 0, 1, 1, 0}, api.ErrForm},
		{[]byte{1, 0, 128, 128, 128, 128, 128, 32}, api.ErrForm},
		// Dots that are the same, or fall.
		{listed(at(0, 1), at(0, 1)), api.ErrForm},
		{listed(at(0, 2), at(0, 1)), api.ErrForm},
		{listed(at(1, 1), at(0, 9)), api.ErrForm},
		{listed(at(0, 1), at(1, 1), at(1, 1)), api.ErrForm},
		{listed(at(0, 1), at(0, 3), at(0, 2), at(0, 4)), api.ErrForm},
		{listed(at(63, api.MaxSeq), at(63, api.MaxSeq)), api.ErrForm},
		// An error ahead of a later one: of the count, of a dot, of the order, and of bytes
		// that end.
		{[]byte{17, 64}, api.ErrForm},
		{[]byte{17, 0, 128}, api.ErrForm},
		{[]byte{2, 64}, api.ErrForm},
		{[]byte{2, 0, 0}, api.ErrForm},
		{[]byte{3, 0, 2, 0, 1}, api.ErrForm},
		{[]byte{3, 0, 2, 0, 1, 5, 128}, api.ErrForm},
		{[]byte{3, 0, 2, 0, 2}, api.ErrForm},
		// Here the second would fall if it were all there.
		{[]byte{2, 1, 2, 0}, api.ErrShort},
		{[]byte{3, 0, 2, 0, 128}, api.ErrShort},
	} {
		if l, n, e := dot.TakeAll(x.b); len(l) != 0 || n != 0 || e != x.e {
			t.Errorf("TakeAll of %v: %v, %d, %d, not %d", x.b, l, n, e, x.e)
		}
		checkTakeAll(t, x.b)
	}
}

// P9.3: no other bytes are a dot: all of up to three bytes, and of four to twelve those
// of which each is at an edge of what a byte may be.
func TestNoOtherDot(t *testing.T) {
	for x := range 1 << 16 {
		checkTake(t, []byte{byte(x)})
		checkTake(t, []byte{byte(x >> 8), byte(x)})
		for _, first := range []byte{0, 63, 64} {
			checkTake(t, []byte{first, byte(x >> 8), byte(x)})
		}
	}
	for size := 4; size <= 12; size++ {
		for _, first := range []byte{0, 1, 63, 64, 128} {
			for _, middle := range []byte{128, 129, 254, 255} {
				for _, next := range []byte{0, 1, 31, 32, 127, 128, 159, 160, 255} {
					for last := range 256 {
						b := bytes.Repeat([]byte{middle}, size)
						b[0], b[size-2], b[size-1] = first, next, byte(last)
						checkTake(t, b)
					}
				}
			}
		}
	}
}

// P9.3: no two dots are the same bytes, or the beginning of one another's.
func TestDotsApart(t *testing.T) {
	l := rights()
	for _, a := range l {
		for _, b := range l {
			if a != b && bytes.HasPrefix(dot.Bytes(a), dot.Bytes(b)) {
				t.Errorf("%v begins as %v", a, b)
			}
		}
	}
}

// P9.3: no other bytes are a list: each of up to two bytes; each byte of a list's
// changed, taken out or doubled.
func TestNoOtherList(t *testing.T) {
	for x := range 1 << 16 {
		checkTakeAll(t, []byte{byte(x)})
		checkTakeAll(t, []byte{byte(x >> 8), byte(x)})
	}
	for _, l := range [][]api.Dot{nil, {at(3, 300)}, {at(0, 1), at(0, 128), at(1, api.MaxSeq)}, row(5), row(api.MaxSeen)} {
		b := listed(l...)
		for i := range b {
			checkTakeAll(t, slices.Delete(slices.Clone(b), i, i+1))
			checkTakeAll(t, slices.Insert(slices.Clone(b), i, b[i]))
			was := b[i]
			for c := range 256 {
				b[i] = byte(c)
				checkTakeAll(t, b)
			}
			b[i] = was
		}
	}
}

// P9.2, P9.3: many bytes of all kinds, with a count that is often one that may be.
func TestMany(t *testing.T) {
	taken := 0
	for seed := range uint32(40000) {
		b := sample.Bytes(int(seed%50), seed)
		checkTake(t, b)
		checkTakeAll(t, b)
		for i := range b {
			b[i] &= byte(seed >> 8)
		}
		if len(b) > 0 {
			b[0] %= 5
		}
		checkTake(t, b)
		checkTakeAll(t, b)
		if l, _, e := dot.TakeAll(b); e == api.OK && len(l) > 1 {
			taken++
		}
	}
	if taken < 1000 {
		t.Errorf("of %d only there were two dots or more", taken)
	}
}

// Rule 3: what is handed in stays, the room behind it too; what is answered is new
// memory.
func TestKeptApart(t *testing.T) {
	for _, l := range [][]api.Dot{{at(3, 1), at(1, 1), at(1, 1), at(0, 9), at(5, 5), at(4, 4)}, row(6)} {
		was := slices.Clone(l)
		for n := range len(l) + 1 {
			out := dot.Sort(l[:n]...)
			_ = append(out, at(9, 9))
			clear(out[:cap(out)])
			b := dot.Put(l[:n]...)
			clear(b[:cap(b)])
			if !slices.Equal(l, was) {
				t.Fatalf("%d dots: what was handed in is %v now, not %v", n, l, was)
			}
		}
	}

	b := append(listed(row(4)...), 77, 78)
	kept := bytes.Clone(b)
	for n := range b {
		dot.Take(b[:n])
		dot.TakeAll(b[:n])
	}
	if !bytes.Equal(b, kept) {
		t.Errorf("Take or TakeAll changed its bytes: %v", b)
	}
	first, _, _ := dot.TakeAll(b)
	second, _, _ := dot.TakeAll(b)
	clear(first[:cap(first)])
	clear(b)
	if !slices.Equal(second, row(4)) {
		t.Errorf("TakeAll shares memory: %v", second)
	}
	if again, _, _ := dot.TakeAll(kept); !slices.Equal(again, row(4)) {
		t.Errorf("TakeAll kept memory: %v", again)
	}

	x, y := dot.Bytes(at(3, 300)), dot.Bytes(at(3, 300))
	clear(x[:cap(x)])
	if !bytes.Equal(y, []byte{3, 172, 2}) || !bytes.Equal(dot.Bytes(at(3, 300)), y) {
		t.Errorf("Bytes share memory: %v", y)
	}
	x, y = dot.Put(row(4)...), dot.Put(row(4)...)
	clear(x[:cap(x)])
	if !bytes.Equal(y, listed(row(4)...)) || !bytes.Equal(dot.Put(row(4)...), y) {
		t.Errorf("what Put answers shares memory: %v", y)
	}
}

// P9.1, P9.2, P9.3: whatever dots there are.
func FuzzDots(f *testing.F) {
	for _, r := range replicas {
		f.Add(r, int64(1), 1, int64(2), 1, int64(300))
	}
	for _, s := range seqs {
		f.Add(1, s, 1, int64(1), 2, int64(1))
	}
	f.Fuzz(func(t *testing.T, r int, s int64, r2 int, s2 int64, r3 int, s3 int64) {
		l := []api.Dot{at(r, s), at(r2, s2), at(r3, s3)}
		for _, a := range l {
			check(t, a)
			for _, b := range l {
				checkLess(t, a, b)
				checkPut(t, []api.Dot{a, b})
			}
		}
		checkPut(t, l)
		checkSort(t, l)
		checkPut(t, dot.Sort(l...))
	})
}

// P9.2, P9.3: whatever bytes there are: an error, or what is put as just these.
func FuzzTake(f *testing.F) {
	for _, d := range rights() {
		f.Add(written(d))
	}
	for n := range api.MaxSeen + 2 {
		f.Add(listed(row(n)...))
		f.Add(bytes.Repeat([]byte{255}, n))
	}
	f.Fuzz(func(t *testing.T, b []byte) {
		checkTake(t, b)
		checkTakeAll(t, b)
	})
}
