package vector_test

import (
	"bytes"
	"encoding/binary"
	"math"
	"slices"
	"testing"

	"newsreel/api"
	"newsreel/sample"
	"newsreel/vector"
)

// numbers: b, and these numbers behind it.
func numbers(b []byte, l ...uint64) []byte {
	out := slices.Clone(b)
	for _, n := range l {
		out = binary.AppendUvarint(out, n)
	}
	return out
}

// P11.2: Bytes: of no rows, of what isn't Right, with and without a Base, with none Extra
// and with some, near one another and far.
func TestBytes(t *testing.T) {
	for _, x := range []struct {
		v    api.Vector
		want []byte
	}{
		{vec(), []byte{0}},
		{api.Vector{Rows: []api.Row{}}, []byte{0}},
		{vec(row(1, 1, 2, 5, 5)), []byte{1, 1, 2, 1, 1, 0}},
		// No Extra.
		{vec(row(0, 1, 1)), []byte{1, 0, 1, 0}},
		{vec(row(63, 1, 127)), []byte{1, 63, 127, 0}},
		{vec(row(63, 1, 128)), []byte{1, 63, 128, 1, 0}},
		{vec(row(63, 1, most)), []byte{1, 63, 255, 255, 255, 255, 255, 31, 0}},
		// Base 0: the first From is 2 or more.
		{vec(row(2, 2, 2)), []byte{1, 2, 0, 1, 0, 0}},
		{vec(row(2, 3, 3)), []byte{1, 2, 0, 1, 1, 0}},
		{vec(row(2, 2, 9)), []byte{1, 2, 0, 1, 0, 7}},
		{vec(row(2, 2, 4, 6, 6, 10, 310)), []byte{1, 2, 0, 3, 0, 2, 0, 0, 2, 172, 2}},
		// A Base, and Extra.
		{vec(row(2, 1, 1, 3, 3)), []byte{1, 2, 1, 1, 0, 0}},
		{vec(row(2, 1, 300, 302, 303, 305, 305)), []byte{1, 2, 172, 2, 2, 0, 1, 0, 0}},
		// Up to MaxSeq.
		{vec(row(2, most, most)), numbers([]byte{1, 2}, 0, 1, uint64(most-2), 0)},
		{vec(row(2, 2, most)), numbers([]byte{1, 2}, 0, 1, 0, uint64(most-2))},
		{vec(row(2, 1, most-2, most, most)), numbers([]byte{1, 2}, uint64(most-2), 1, 0, 0)},
		{vec(row(2, 1, 1, most, most)), numbers([]byte{1, 2}, 1, 1, uint64(most-3), 0)},
		// Several rows; each begins anew.
		{vec(row(0, 3, 9, 11, 12), row(63, 1, 300)), []byte{2, 0, 0, 2, 1, 6, 0, 1, 63, 172, 2, 0}},
		{vec(row(0, 1, 4, 6, 6), row(1, 2, 2), row(2, 1, 1)), []byte{3, 0, 4, 1, 0, 0, 1, 0, 1, 0, 0, 2, 1, 0}},
		// Not Right.
		{vec(row(0)), nil},
		{vec(row(-1, 1, 1)), nil},
		{vec(row(64, 1, 1)), nil},
		{vec(row(0, 0, 1)), nil},
		{vec(row(0, 1, most+1)), nil},
		{vec(row(0, 1, 1, 2, 2)), nil},
		{vec(row(1, 1, 1), row(1, 3, 3)), nil},
		{vec(row(1, 1, 1), row(0, 1, 1)), nil},
		{vec(row(0, 1, 1), row(1)), nil},
	} {
		if b := vector.Bytes(x.v); !bytes.Equal(b, x.want) {
			t.Errorf("Bytes of %v: %v, not %v", x.v, b, x.want)
		}
	}
	for _, v := range bads() {
		if b := vector.Bytes(v); len(b) != 0 {
			t.Errorf("Bytes of %v: %v", v, b)
		}
	}
	// As many rows, and as many ranges, as need two bytes to tell.
	var all []api.Row
	want := []byte{64}
	for i := range 64 {
		all = append(all, row(i, 1, int64(i+1)))
		want = append(want, byte(i), byte(i+1), 0)
	}
	if b := vector.Bytes(vec(all...)); !bytes.Equal(b, want) {
		t.Errorf("Bytes of a row for each replica: %v, not %v", b, want)
	}
	long := row(9)
	want = []byte{1, 9, 0, 172, 2}
	for i := range int64(300) {
		long.Ranges = append(long.Ranges, api.Range{From: 2*i + 2, To: 2*i + 2})
		want = append(want, 0, 0)
	}
	if b := vector.Bytes(vec(long)); !bytes.Equal(b, want) {
		t.Errorf("Bytes of 300 ranges: %v, not %v", b, want)
	}
	checkOne(t, vec(long))
}

// P11.2: Take: what Bytes made, with nothing and with whatever bytes behind it; each
// shorter piece of it isn't all of it.
func TestTakeBytes(t *testing.T) {
	l := goods()
	for seed := range uint32(60) {
		l = append(l, sampled(sample.Bytes(int(seed), seed)))
	}
	for _, v := range l {
		b := vector.Bytes(v)
		for _, behind := range [][]byte{nil, {0}, {1}, {7, 7}, {64}, {128}, {128, 0}, bytes.Repeat([]byte{255}, 30), b} {
			got, n, e := vector.Take(slices.Concat(b, behind))
			if !equal(got, v) || n != len(b) || e != api.OK {
				t.Fatalf("Take of Bytes of %v, and %v: %v, %d, %d", v, behind, got, n, e)
			}
		}
		for k := range b {
			// The bytes behind the cut are room, not bytes.
			if got, n, e := vector.Take(b[:k]); len(got.Rows) != 0 || n != 0 || e != api.ErrShort {
				t.Fatalf("Take of %d bytes of %v: %v, %d, %d", k, b, got, n, e)
			}
			checkTake(t, b[:k])
		}
	}
}

// refused: bytes that are none, and the error that Take answers of them.
type refused struct {
	b []byte
	e api.Errno
}

// refusedRows: how many rows there are, and their replicas.
func refusedRows() []refused {
	full := bytes.Repeat([]byte{255}, 20)
	return []refused{
		{nil, api.ErrShort},
		{[]byte{}, api.ErrShort},
		// How many rows: it ends too early, it isn't so written, there are too many.
		{[]byte{128}, api.ErrShort},
		{full[:9], api.ErrShort},
		{full[:10], api.ErrForm},
		{full, api.ErrForm},
		{[]byte{128, 0}, api.ErrForm},
		{[]byte{129, 0, 1, 1, 0}, api.ErrForm},
		{[]byte{65}, api.ErrForm},
		{[]byte{65, 0, 1, 0}, api.ErrForm},
		{[]byte{127}, api.ErrForm},
		{[]byte{128, 1}, api.ErrForm},
		{numbers(nil, 1<<32+1), api.ErrForm},
		{numbers(nil, 1<<63), api.ErrForm},
		{numbers(nil, math.MaxUint64), api.ErrForm},
		{numbers(nil, 1<<32+1, 0, 1, 0), api.ErrForm},
		// No replica; one above 63; one that is the one ahead, or below it.
		{[]byte{1}, api.ErrShort},
		{[]byte{64}, api.ErrShort},
		{[]byte{2, 1, 1, 0}, api.ErrShort},
		{[]byte{1, 64}, api.ErrForm},
		{[]byte{1, 64, 1, 0}, api.ErrForm},
		{[]byte{1, 255, 1, 0}, api.ErrForm},
		{[]byte{2, 1, 1, 0, 64}, api.ErrForm},
		{[]byte{2, 1, 1, 0, 1}, api.ErrForm},
		{[]byte{2, 1, 1, 0, 1, 1, 0}, api.ErrForm},
		{[]byte{2, 1, 1, 0, 0}, api.ErrForm},
		{[]byte{2, 1, 1, 0, 0, 1, 0}, api.ErrForm},
		{[]byte{2, 63, 1, 0, 63, 1, 0}, api.ErrForm},
		{[]byte{3, 1, 1, 0, 5, 1, 0, 3, 1, 0}, api.ErrForm},
		{[]byte{3, 1, 1, 0, 5, 1, 0, 1, 1, 0}, api.ErrForm},
		{[]byte{2, 0, 1, 0, 0, 1, 0}, api.ErrForm},
		// One ahead of a later one.
		{[]byte{65, 64}, api.ErrForm},
		{[]byte{1, 64, 128, 0}, api.ErrForm},
		{[]byte{2, 1, 1, 0, 1, 128}, api.ErrForm},
		{[]byte{2, 1, 0, 0, 1}, api.ErrForm},
	}
}

// refusedBases: a row's Base, and how many ranges are Extra.
func refusedBases() []refused {
	full := bytes.Repeat([]byte{255}, 20)
	over := uint64(most + 1)
	one := []byte{1, 1}
	return []refused{
		// Either ends too early.
		{one, api.ErrShort},
		{[]byte{1, 1, 0}, api.ErrShort},
		{[]byte{1, 1, 1}, api.ErrShort},
		{[]byte{1, 1, 128}, api.ErrShort},
		{[]byte{1, 1, 1, 128}, api.ErrShort},
		{slices.Concat(one, full[:9]), api.ErrShort},
		{slices.Concat(one, []byte{1}, full[:9]), api.ErrShort},
		// Either isn't so written.
		{[]byte{1, 1, 128, 0, 0}, api.ErrForm},
		{[]byte{1, 1, 129, 0, 0}, api.ErrForm},
		{[]byte{1, 1, 1, 128, 0}, api.ErrForm},
		{slices.Concat(one, full[:10]), api.ErrForm},
		{slices.Concat(one, []byte{1}, full[:10]), api.ErrForm},
		// Nothing at all.
		{[]byte{1, 1, 0, 0}, api.ErrForm},
		{[]byte{2, 1, 1, 0, 2, 0, 0}, api.ErrForm},
		{[]byte{2, 1, 0, 0, 2, 1, 0}, api.ErrForm},
		// A Base above MaxSeq, behind which the other number ends too early, isn't so
		// written, or is there.
		{numbers(one, over), api.ErrShort},
		{append(numbers(one, over), 128), api.ErrShort},
		{append(numbers(one, over), 128, 0), api.ErrForm},
		{numbers(one, over, 0), api.ErrForm},
		{numbers(one, over, 1), api.ErrForm},
		{numbers(one, over, 1, 0, 0), api.ErrForm},
		{numbers(one, 1<<56+1, 0), api.ErrForm},
		{numbers(one, 1<<63, 0), api.ErrForm},
		{numbers(one, 1<<63+5, 0), api.ErrForm},
		{numbers(one, math.MaxUint64, 0), api.ErrForm},
		{numbers(one, math.MaxUint64), api.ErrShort},
	}
}

// refusedRanges: the ranges of a row.
func refusedRanges() []refused {
	one, top := []byte{1, 1}, uint64(most)
	full := bytes.Repeat([]byte{255}, 20)
	l := []refused{
		// Fewer than it says.
		{numbers(one, 0, 1), api.ErrShort},
		{numbers(one, 0, 1, 0), api.ErrShort},
		{numbers(one, 0, 2, 0, 0), api.ErrShort},
		{numbers(one, 0, 1<<32, 0, 0), api.ErrShort},
		{numbers(one, 0, math.MaxUint64, 0, 0), api.ErrShort},
		{numbers(one, 5, math.MaxUint64), api.ErrShort},
		{slices.Concat(numbers(one, 0, 1), full[:9]), api.ErrShort},
		{slices.Concat(numbers(one, 0, 1, 0), full[:9]), api.ErrShort},
		// Not so written.
		{slices.Concat(numbers(one, 0, 1), full), api.ErrForm},
		{slices.Concat(numbers(one, 0, 1, 0), full), api.ErrForm},
		{append(numbers(one, 0, 1), 128, 0, 0), api.ErrForm},
		{append(numbers(one, 0, 1, 0), 128, 0), api.ErrForm},
		{append(numbers(one, 0, 1, 0), 255, 0), api.ErrForm},
		{append(numbers(one, 0, 2, 0, 0), 129, 0, 1), api.ErrForm},
		// Behind a From too great the other number ends too early, or isn't so written.
		{numbers(one, 0, 1, top-1), api.ErrShort},
		{numbers(one, 0, 1, math.MaxUint64), api.ErrShort},
		{append(numbers(one, 0, 1, math.MaxUint64), 128), api.ErrShort},
		{append(numbers(one, 0, 1, math.MaxUint64), 128, 0), api.ErrForm},
		// A To above MaxSeq ahead of what is wrong behind it.
		{numbers(one, 0, 2, 0, top), api.ErrForm},
		{numbers(one, 0, 2, top, 0, 128), api.ErrForm},
		{append(numbers([]byte{2, 1}, 0, 1, 0, top), 64), api.ErrForm},
	}
	// Too great, by one and by what wraps round.
	for _, x := range [][]uint64{
		{top, 1, 0, 0},
		{top - 1, 1, 0, 0},
		{top - 2, 1, 1, 0},
		{top - 2, 1, 0, 1},
		{1, 1, top - 2, 0},
		{1, 1, 0, top - 2},
		{0, 1, top - 1, 0},
		{0, 1, top - 2, 1},
		{0, 1, 0, top - 1},
		{0, 1, 1, top - 2},
		{0, 1, top + 1, 0},
		{0, 1, 0, top + 1},
		{0, 2, 0, top - 2, 0, 0},
		{0, 2, 0, top - 4, 0, 1},
		{0, 2, 0, 0, top - 3, 0},
		{0, 1, math.MaxInt64, 0},
		{0, 1, math.MaxInt64 - 1, 0},
		{0, 1, math.MaxInt64 - 2, 0},
		{0, 1, 0, math.MaxInt64},
		{0, 1, 0, math.MaxInt64 - 1},
		{0, 1, math.MaxInt64, math.MaxInt64},
		{0, 1, 1 << 63, 0},
		{0, 1, 0, 1 << 63},
		{0, 1, 1 << 63, 1 << 63},
		{0, 1, math.MaxUint64, 0},
		{0, 1, math.MaxUint64 - 1, 0},
		{0, 1, math.MaxUint64, 5},
		{0, 1, 0, math.MaxUint64},
		{0, 1, 5, math.MaxUint64},
		{0, 1, 5, math.MaxUint64 - 5},
		{0, 1, math.MaxUint64, math.MaxUint64},
		{5, 1, math.MaxUint64 - 6, 0},
		{5, 1, math.MaxUint64 - 5, 3},
		{5, 1, math.MaxUint64, 0},
		{top, 1, math.MaxUint64, math.MaxUint64},
	} {
		l = append(l, refused{numbers(one, x...), api.ErrForm})
	}
	return l
}

// P11.2: Take: each error, and each one ahead of a later one.
func TestTakeRefuses(t *testing.T) {
	for _, x := range slices.Concat(refusedRows(), refusedBases(), refusedRanges()) {
		for _, behind := range [][]byte{nil, {0}, {1, 1, 1}, {64}, bytes.Repeat([]byte{255}, 12)} {
			if x.e == api.ErrShort && len(behind) > 0 {
				continue
			}
			b := slices.Concat(x.b, behind)
			if v, n, e := vector.Take(b); len(v.Rows) != 0 || n != 0 || e != x.e {
				t.Errorf("Take of %v: %v, %d, %d, not %d", b, v, n, e, x.e)
			}
		}
		checkTake(t, x.b)
	}
	// A row for each replica, and one more than there are.
	b := []byte{65}
	for i := range 65 {
		b = append(b, byte(i), 1, 0)
	}
	if v, n, e := vector.Take(b); len(v.Rows) != 0 || n != 0 || e != api.ErrForm {
		t.Errorf("Take of 65 rows: %v, %d, %d", v, n, e)
	}
	b[0] = 64
	if v, n, e := vector.Take(b); len(v.Rows) != 64 || n != 1+3*64 || e != api.OK {
		t.Errorf("Take of 64 rows: %v, %d, %d", v, n, e)
	}
}

// P11.2: Take: a Base and a To that are MaxSeq.
func TestTakeMost(t *testing.T) {
	one, top := []byte{1, 1}, uint64(most)
	for _, x := range []struct {
		b []byte
		v api.Vector
	}{
		{numbers(one, top, 0), vec(row(1, 1, most))},
		{numbers(one, top-2, 1, 0, 0), vec(row(1, 1, most-2, most, most))},
		{numbers(one, top-3, 1, 0, 1), vec(row(1, 1, most-3, most-1, most))},
		{numbers(one, 0, 1, top-2, 0), vec(row(1, most, most))},
		{numbers(one, 0, 1, 0, top-2), vec(row(1, 2, most))},
		{numbers(one, 0, 2, 0, top-4, 0, 0), vec(row(1, 2, most-2, most, most))},
		{numbers([]byte{2, 0}, top, 0, 63, top, 0), vec(row(0, 1, most), row(63, 1, most))},
	} {
		if v, n, e := vector.Take(x.b); !equal(v, x.v) || n != len(x.b) || e != api.OK {
			t.Errorf("Take of %v: %v, %d, %d", x.b, v, n, e)
		}
		checkTake(t, x.b)
		checkOne(t, x.v)
	}
}

// P11.2: no other bytes are a vector: all of up to two, and of up to six those of these
// bytes; a row and a range of numbers at their edges.
func TestNoOtherBytes(t *testing.T) {
	for x := range 1 << 16 {
		checkTake(t, []byte{byte(x)})
		checkTake(t, []byte{byte(x >> 8), byte(x)})
		checkTake(t, []byte{1, byte(x >> 8), byte(x), 1, 0, 0})
		checkTake(t, []byte{1, 3, 0, 1, byte(x >> 8), byte(x)})
	}
	few := []byte{0, 1, 2, 63, 64, 128, 255}
	var try func(b []byte)
	try = func(b []byte) {
		checkTake(t, b)
		if len(b) < 6 {
			for _, x := range few {
				try(append(b, x))
			}
		}
	}
	try(make([]byte, 0, 6))
	top := uint64(most)
	edges := []uint64{0, 1, 2, top - 4, top - 3, top - 2, top - 1, top, top + 1, math.MaxInt64, math.MaxUint64 - 1, math.MaxUint64}
	for _, base := range edges {
		for _, many := range []uint64{0, 1, 2, math.MaxUint64} {
			for _, above := range edges {
				for _, long := range edges {
					checkTake(t, numbers([]byte{1, 9}, base, many, above, long))
					checkTake(t, numbers([]byte{2, 9}, base, many, above, long, 1, 0, 10, base, 0))
				}
			}
		}
	}
}

// P11.2: of what Bytes made each byte changed, taken out or doubled; of many bytes
// changed to a few others only.
func TestTakeChanged(t *testing.T) {
	for _, v := range goods() {
		b := written(v)
		step := 1
		if len(b) > 100 {
			step = 50
		}
		for i := range b {
			checkTake(t, slices.Delete(slices.Clone(b), i, i+1))
			checkTake(t, slices.Insert(slices.Clone(b), i, b[i]))
			changed := slices.Clone(b)
			for c := 0; c < 256; c += step {
				changed[i] = b[i] + byte(c)
				checkTake(t, changed)
			}
		}
	}
}

// P11.2: vectors with other dots have other bytes; none are the beginning of another's.
func TestBytesApart(t *testing.T) {
	sets, _ := subsets([]api.Dot{at(0, 1), at(0, 2), at(0, 3), at(0, 300), at(1, 1), at(1, 2), at(63, 2), at(63, most)})
	for i, a := range sets {
		for k, b := range sets {
			if i != k && bytes.HasPrefix(vector.Bytes(a), vector.Bytes(b)) {
				t.Errorf("%v begins as %v", a, b)
			}
		}
	}
}

// P11.2: whatever bytes there are.
func FuzzTake(f *testing.F) {
	for _, v := range goods() {
		f.Add(written(v))
	}
	for _, x := range slices.Concat(refusedRows(), refusedBases(), refusedRanges()) {
		f.Add(x.b)
	}
	f.Fuzz(func(t *testing.T, b []byte) { checkTake(t, b) })
}
