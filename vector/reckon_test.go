package vector_test

import (
	"bytes"
	"encoding/binary"
	"math"
	"math/big"
	"slices"
	"testing"

	"newsreel/api"
	"newsreel/vector"
)

// The second reckoning: what the calls answer, by another hand, and the checks that hold
// the calls against it.

func at(replica int, seq int64) api.Dot { return api.Dot{Replica: replica, Seq: seq} }

// row: a row whose ranges have these ends, two of them a range.
func row(replica int, ends ...int64) api.Row {
	var l []api.Range
	for i := 0; i < len(ends); i += 2 {
		l = append(l, api.Range{From: ends[i], To: ends[i+1]})
	}
	return api.Row{Replica: replica, Ranges: l}
}

func vec(l ...api.Row) api.Vector { return api.Vector{Rows: l} }

// clone: v, in memory of its own, with no room behind.
func clone(v api.Vector) api.Vector {
	var out api.Vector
	for _, r := range v.Rows {
		out.Rows = append(out.Rows, api.Row{Replica: r.Replica, Ranges: slices.Clone(r.Ranges)})
	}
	return out
}

// equal: whether a and b have the same rows, Right or not.
func equal(a, b api.Vector) bool {
	return slices.EqualFunc(a.Rows, b.Rows, func(x, y api.Row) bool {
		return x.Replica == y.Replica && slices.Equal(x.Ranges, y.Ranges)
	})
}

// isSeq: whether n is 1 to MaxSeq.
func isSeq(n int64) bool { return n != 0 && uint64(n)>>40 == 0 }

// isDot: dot.Right of d.
func isDot(d api.Dot) bool { return uint(d.Replica)>>6 == 0 && isSeq(d.Seq) }

// right: Right of v: where a range begins, and where it has ended, all these rise, row
// by row.
func right(v api.Vector) bool {
	replicas := map[int]int{}
	var ends []int64
	for _, r := range v.Rows {
		replicas[r.Replica]++
		if uint(r.Replica)>>6 != 0 || len(r.Ranges) == 0 || replicas[r.Replica] > 1 {
			return false
		}
		for _, x := range r.Ranges {
			if !isSeq(x.From) || !isSeq(x.To) {
				return false
			}
			ends = append(ends, int64(r.Replica)<<42+x.From, int64(r.Replica)<<42+x.To+1)
		}
	}
	for i := 1; i < len(ends); i++ {
		if ends[i-1] >= ends[i] {
			return false
		}
	}
	return true
}

// in: whether d is in a range of v, Right or not.
func in(v api.Vector, d api.Dot) bool {
	for _, r := range v.Rows {
		for _, x := range r.Ranges {
			if r.Replica == d.Replica && x.From <= d.Seq && d.Seq <= x.To {
				return true
			}
		}
	}
	return false
}

// set: the vector of these dots, each Right, one by one: what touches a range makes it
// longer.
func set(dots ...api.Dot) api.Vector {
	sorted := slices.Clone(dots)
	slices.SortFunc(sorted, func(a, b api.Dot) int {
		if a.Replica != b.Replica {
			return a.Replica - b.Replica
		}
		return int(a.Seq - b.Seq)
	})
	var v api.Vector
	for i, d := range sorted {
		if i == 0 || sorted[i-1].Replica != d.Replica {
			v.Rows = append(v.Rows, row(d.Replica, d.Seq, d.Seq))
			continue
		}
		last := &v.Rows[len(v.Rows)-1]
		if end := &last.Ranges[len(last.Ranges)-1]; d.Seq <= end.To+1 {
			end.To = d.Seq
		} else {
			last.Ranges = append(last.Ranges, api.Range{From: d.Seq, To: d.Seq})
		}
	}
	return v
}

// probes: dots of which each of these vectors, if all have the same of them, has the
// same of all dots: of each row's replica, and of those at the limits, the ends of each
// range, what is beside them, and the limits of a Seq.
func probes(l ...api.Vector) []api.Dot {
	replicas := map[int]int{math.MinInt: 1, -1: 1, 0: 1, 63: 1, 64: 1, 256: 1, math.MaxInt: 1}
	seqs := map[int64]int{math.MinInt64: 1, -1: 1, 0: 1, 1: 1, 2: 1, most - 1: 1, most: 1, most + 1: 1, math.MaxInt64: 1}
	for _, v := range l {
		for _, r := range v.Rows {
			replicas[r.Replica] = 1
			for _, x := range r.Ranges {
				for _, n := range []int64{x.From, x.To} {
					seqs[n], seqs[max(n, math.MinInt64+1)-1], seqs[min(n, math.MaxInt64-1)+1] = 1, 1, 1
				}
			}
		}
	}
	var out []api.Dot
	for replica := range replicas {
		for seq := range seqs {
			out = append(out, at(replica, seq))
		}
	}
	return out
}

// extra: the ranges of l that don't begin with 1, and how far the one that does goes.
func extra(l []api.Range) (int64, []api.Range) {
	var base int64
	out := slices.DeleteFunc(slices.Clone(l), func(x api.Range) bool {
		if x.From == 1 {
			base = x.To
		}
		return x.From == 1
	})
	return base, out
}

// written: Bytes of v, a Right one.
func written(v api.Vector) []byte {
	b := binary.AppendUvarint(nil, uint64(len(v.Rows)))
	for _, r := range v.Rows {
		base, l := extra(r.Ranges)
		b = binary.AppendUvarint(append(b, byte(r.Replica)), uint64(base))
		b = binary.AppendUvarint(b, uint64(len(l)))
		for i, x := range l {
			end := base
			if i > 0 {
				end = l[i-1].To
			}
			b = binary.AppendUvarint(b, uint64(x.From-end-2))
			b = binary.AppendUvarint(b, uint64(x.To-x.From))
		}
	}
	return b
}

// taker: bytes that are taken one behind the other; the first error stays.
type taker struct {
	b []byte
	n int
	e api.Errno
}

func (t *taker) must(holds bool, e api.Errno) {
	if t.e == api.OK && !holds {
		t.e = e
	}
}

func (t *taker) byte() int {
	t.must(t.n < len(t.b), api.ErrShort)
	if t.e != api.OK {
		return 0
	}
	t.n++
	return int(t.b[t.n-1])
}

func (t *taker) number() uint64 {
	if t.e != api.OK {
		return 0
	}
	left := t.b[t.n:]
	v, n := binary.Uvarint(left)
	t.must(n != 0 || len(left) >= 10, api.ErrShort)
	t.must(n > 0 && (n == 1 || left[n-1] != 0), api.ErrForm)
	t.n += n
	return v
}

// ranges: the ranges of a row, behind its replica.
func (t *taker) ranges() []api.Range {
	var l []api.Range
	base, many := t.number(), t.number()
	t.must(base>>40 == 0 && (base != 0 || many != 0), api.ErrForm)
	if base > 0 {
		l = append(l, api.Range{From: 1, To: int64(base)})
	}
	end := new(big.Int).SetUint64(base)
	for ; many > 0 && t.e == api.OK; many-- {
		from := new(big.Int).SetUint64(t.number())
		from.Add(from, end).Add(from, big.NewInt(2))
		end = new(big.Int).SetUint64(t.number())
		end.Add(end, from)
		t.must(end.BitLen() <= 40, api.ErrForm)
		if t.e == api.OK {
			l = append(l, api.Range{From: from.Int64(), To: end.Int64()})
		}
	}
	return l
}

// take: Take of b.
func take(b []byte) (api.Vector, int, api.Errno) {
	t := &taker{b: b}
	var v api.Vector
	ahead := -1
	many := t.number()
	t.must(many <= 64, api.ErrForm)
	for ; many > 0 && t.e == api.OK; many-- {
		replica := t.byte()
		t.must(replica < 64 && replica > ahead, api.ErrForm)
		ahead = replica
		v.Rows = append(v.Rows, api.Row{Replica: replica, Ranges: t.ranges()})
	}
	if t.e != api.OK {
		return api.Vector{}, 0, t.e
	}
	return v, t.n, api.OK
}

// checkTake: Take of b is as by the second reckoning, and leaves b; what is taken is put
// as just these bytes.
func checkTake(t *testing.T, b []byte) {
	t.Helper()
	was := string(b)
	want, size, errno := take(b)
	v, n, e := vector.Take(b)
	if !equal(v, want) || n != size || e != errno {
		t.Fatalf("Take of %v: %v, %d, %d, not %v, %d, %d", b, v, n, e, want, size, errno)
	}
	if e == api.OK && (!right(v) || !bytes.Equal(vector.Bytes(v), b[:n])) {
		t.Fatalf("Bytes of Take of %v: %v of %v", b, vector.Bytes(v), v)
	}
	if string(b) != was {
		t.Fatalf("Take made %v of %v", b, []byte(was))
	}
}

// checkSet: out is the one vector of the dots that want tells, which is of a and b.
func checkSet(t *testing.T, what string, a, b, out api.Vector, want func(d api.Dot) bool) {
	t.Helper()
	if !right(out) {
		t.Fatalf("%s of %v, %v isn't Right: %v", what, a, b, out)
	}
	for _, d := range probes(a, b, out) {
		if in(out, d) != want(d) {
			t.Fatalf("%s of %v, %v: %v: %v is %v", what, a, b, out, d, in(out, d))
		}
	}
}

// checkTwo: Join, Minus and Same of a and b, either of them Right or not.
func checkTwo(t *testing.T, a, b api.Vector) {
	t.Helper()
	wasA, wasB := clone(a), clone(b)
	joined, left := vector.Join(a, b), vector.Minus(a, b)
	if right(a) && right(b) {
		checkSet(t, "Join", a, b, joined, func(d api.Dot) bool { return in(a, d) || in(b, d) })
		checkSet(t, "Minus", a, b, left, func(d api.Dot) bool { return in(a, d) && !in(b, d) })
	} else if len(joined.Rows) != 0 || len(left.Rows) != 0 {
		t.Fatalf("of %v, %v: Join %v, Minus %v", a, b, joined, left)
	}
	if is := vector.Same(a, b); is != (right(a) && right(b) && equal(a, b)) {
		t.Fatalf("Same of %v, %v: %v", a, b, is)
	}
	if !equal(a, wasA) || !equal(b, wasB) {
		t.Fatalf("%v, %v are %v, %v now", wasA, wasB, a, b)
	}
}

// checkDot: Has and Add of v and d, either of them Right or not.
func checkDot(t *testing.T, v api.Vector, d api.Dot) {
	t.Helper()
	was := clone(v)
	if is := vector.Has(v, d); is != (right(v) && isDot(d) && in(v, d)) {
		t.Fatalf("Has of %v, %v: %v", v, d, is)
	}
	out := vector.Add(v, d)
	if right(v) && isDot(d) {
		one := vec(row(d.Replica, d.Seq, d.Seq))
		checkSet(t, "Add", v, one, out, func(x api.Dot) bool { return x == d || in(v, x) })
	} else if len(out.Rows) != 0 {
		t.Fatalf("Add of %v, %v: %v", v, d, out)
	}
	if !equal(v, was) {
		t.Fatalf("%v is %v now", was, v)
	}
}

// checkRow: Base and Extra of v and each replica there may be, or not.
func checkRow(t *testing.T, v api.Vector) {
	t.Helper()
	rows := map[int][]api.Range{}
	if right(v) {
		for _, r := range v.Rows {
			rows[r.Replica] = r.Ranges
		}
	}
	replicas := []int{math.MinInt, -256, -1, 64, 65, 256, 256 + 63, math.MaxInt}
	for replica := range 64 {
		replicas = append(replicas, replica)
	}
	for _, r := range v.Rows {
		replicas = append(replicas, r.Replica)
	}
	for _, replica := range replicas {
		base, l := extra(rows[replica])
		if n := vector.Base(v, replica); n != base {
			t.Fatalf("Base of %v, %d: %d, not %d", v, replica, n, base)
		}
		if got := vector.Extra(v, replica); !slices.Equal(got, l) {
			t.Fatalf("Extra of %v, %d: %v, not %v", v, replica, got, l)
		}
	}
}

// checkOne: what each call answers of v alone, Right or not, and of v and itself or none.
func checkOne(t *testing.T, v api.Vector) {
	t.Helper()
	was := clone(v)
	is := right(v)
	if vector.Right(v) != is {
		t.Fatalf("Right of %v: %v", v, !is)
	}
	var count int64
	var b []byte
	if is {
		for _, r := range v.Rows {
			for _, x := range r.Ranges {
				count += x.To - x.From + 1
			}
		}
		b = written(v)
		checkTake(t, b)
	}
	if n := vector.Count(v); n != count {
		t.Fatalf("Count of %v: %d, not %d", v, n, count)
	}
	if got := vector.Bytes(v); !bytes.Equal(got, b) {
		t.Fatalf("Bytes of %v: %v, not %v", v, got, b)
	}
	checkRow(t, v)
	for _, d := range probes(v) {
		if vector.Has(v, d) != (is && in(v, d)) {
			t.Fatalf("Has of %v, %v: %v", v, d, vector.Has(v, d))
		}
	}
	checkTwo(t, v, api.Vector{})
	checkTwo(t, api.Vector{}, v)
	checkTwo(t, v, v)
	checkTwo(t, v, clone(v))
	if !equal(v, was) {
		t.Fatalf("%v is %v now", was, v)
	}
}

// checkOf: Of of l has each dot of l that is Right, and no other one.
func checkOf(t *testing.T, l []api.Dot) {
	t.Helper()
	was := slices.Clone(l)
	out := vector.Of(l...)
	if !slices.Equal(l, was) {
		t.Fatalf("Of changed %v to %v", was, l)
	}
	want := set(slices.DeleteFunc(was, func(d api.Dot) bool { return !isDot(d) })...)
	if !equal(out, want) {
		t.Fatalf("Of of %v: %v, not %v", l, out, want)
	}
}
