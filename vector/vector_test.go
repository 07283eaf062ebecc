package vector_test

import (
	"encoding/binary"
	"math"
	"slices"
	"testing"

	"newsreel/api"
	"newsreel/sample"
	"newsreel/vector"
)

const most = int64(api.MaxSeq)

// many: a vector with a row for each replica, all unlike.
func many() api.Vector {
	var v api.Vector
	for i := range int64(64) {
		r := row(int(i), 1, i+1, i+3, 2*i+3, 1<<20+i, most-i)
		v.Rows = append(v.Rows, api.Row{Replica: r.Replica, Ranges: r.Ranges[i%3:]})
	}
	return v
}

// goods: vectors that are Right.
func goods() []api.Vector {
	return []api.Vector{
		{},
		vec(row(0, 1, 1)),
		vec(row(0, 2, 2)),
		vec(row(63, 1, most)),
		vec(row(63, most, most)),
		vec(row(5, 2, most)),
		vec(row(5, 1, most-2, most, most)),
		vec(row(1, 1, 2, 5, 5)),
		vec(row(1, 3, 5, 7, 7, 20, 300)),
		vec(row(0, 1, 3), row(63, 1, 3)),
		vec(row(0, 2, 4, 6, 9), row(1, 1, 1, 3, 3), row(2, 1, 9)),
		vec(row(1, 1, 1), row(5, 1, 3, 5, 7), row(63, 9, 9)),
		vec(row(5, 2, 6), row(6, 1, 1<<32)),
		many(),
	}
}

// badRows: rows, each of which makes the vector it stands in one that isn't Right.
func badRows() []api.Row {
	return []api.Row{
		row(7),
		{Replica: 7, Ranges: []api.Range{}},
		row(-1, 1, 1),
		row(64, 1, 1),
		row(256, 1, 1),
		row(256+7, 1, 1),
		row(math.MinInt, 1, 1),
		row(math.MaxInt, 1, 1),
		row(7, 0, 0),
		row(7, 0, 3),
		row(7, -3, 3),
		row(7, 2, 1),
		row(7, 1, 0),
		row(7, 1, most+1),
		row(7, most+1, most+1),
		row(7, 1, 2, 3, 4),
		row(7, 1, 3, 2, 4),
		row(7, 5, 6, 1, 2),
		row(7, 1, 2, 5, 4),
		row(7, 1, 2, 4, 5, 6, 6),
		row(7, 1, 2, 4, most+1),
		row(7, math.MinInt64, math.MaxInt64),
		row(7, math.MaxInt64, math.MinInt64),
		row(7, 1, math.MaxInt64, math.MinInt64, 5),
	}
}

// bads: vectors that aren't Right: each bad row alone, first, between others and last;
// rows that are twice there, or fall.
func bads() []api.Vector {
	l := []api.Vector{
		vec(row(3, 1, 1), row(3, 3, 3)),
		vec(row(3, 1, 1), row(3, 1, 1)),
		vec(row(3, 1, 1), row(2, 1, 1)),
		vec(row(63, 1, 1), row(0, 1, 1)),
		vec(row(0, 1, 1), row(0, 1, 1), row(1, 1, 1)),
		vec(row(0, 1, 1), row(1, 1, 1), row(1, 3, 3)),
		vec(row(0, 1, 1), row(2, 1, 1), row(1, 1, 1)),
		vec(row(1, 1, 1), row(0, 1, 1), row(2, 1, 1)),
		vec(row(0, 1, 1), row(1, 1, 1), row(0, 3, 3)),
		vec(append(many().Rows, row(64, 1, 1))...),
		vec(append(many().Rows, row(63, 1, 1))...),
		vec(append(many().Rows, row(0, 1, 1))...),
	}
	for _, r := range badRows() {
		l = append(l,
			vec(r),
			vec(r, row(8, 1, 2)),
			vec(row(6, 1, 2), r, row(8, 1, 2)),
			vec(row(6, 1, 2), r),
		)
	}
	return l
}

// P11.1: Right: each thing that it asks for, at its limits and one past them, in the
// first row and in the last.
func TestRight(t *testing.T) {
	for _, x := range []struct {
		v    api.Vector
		want bool
	}{
		{api.Vector{}, true},
		{api.Vector{Rows: []api.Row{}}, true},
		// A row's replica.
		{vec(row(-1, 1, 1)), false},
		{vec(row(0, 1, 1)), true},
		{vec(row(63, 1, 1)), true},
		{vec(row(64, 1, 1)), false},
		{vec(row(math.MinInt, 1, 1)), false},
		{vec(row(math.MaxInt, 1, 1)), false},
		{vec(row(-1, 1, 1), row(0, 1, 1)), false},
		{vec(row(0, 1, 1), row(63, 1, 1)), true},
		{vec(row(0, 1, 1), row(64, 1, 1)), false},
		// Two rows of one replica, and rows that fall.
		{vec(row(3, 1, 1), row(3, 3, 3)), false},
		{vec(row(3, 1, 1), row(3, 1, 1)), false},
		{vec(row(3, 1, 1), row(4, 1, 1)), true},
		{vec(row(4, 1, 1), row(3, 1, 1)), false},
		{vec(row(1, 1, 1), row(3, 1, 1), row(2, 1, 1)), false},
		{vec(row(2, 1, 1), row(1, 1, 1), row(3, 1, 1)), false},
		// No ranges.
		{vec(row(3)), false},
		{vec(api.Row{Replica: 3, Ranges: []api.Range{}}), false},
		{vec(row(3), row(4, 1, 1)), false},
		{vec(row(3, 1, 1), row(4)), false},
		{vec(row(3, 1, 1), row(4), row(5, 1, 1)), false},
		// Ranges that aren't Right.
		{vec(row(3, 0, 1)), false},
		{vec(row(3, 1, 0)), false},
		{vec(row(3, 1, 2, 3, 4)), false},
		{vec(row(3, 1, 2, 4, 5)), true},
		{vec(row(3, 4, 5, 1, 2)), false},
		{vec(row(3, 1, most)), true},
		{vec(row(3, 1, most+1)), false},
		{vec(row(3, 0, 1), row(4, 1, 1)), false},
		{vec(row(3, 1, 1), row(4, 0, 1)), false},
		{vec(row(3, 1, 1), row(4, 1, 2, 2, 3)), false},
		{vec(row(3, 1, 1), row(4, 1, 1), row(5, 2, 1)), false},
		// Unlike rows have nothing to do with one another.
		{vec(row(3, 5, 9), row(4, 1, 7), row(5, 7, 8)), true},
		{many(), true},
	} {
		if vector.Right(x.v) != x.want {
			t.Errorf("Right of %v: %v", x.v, !x.want)
		}
		checkOne(t, x.v)
	}
	for _, v := range goods() {
		if !vector.Right(v) {
			t.Errorf("Right of %v: false", v)
		}
		checkOne(t, v)
	}
	for _, v := range bads() {
		if vector.Right(v) {
			t.Errorf("Right of %v: true", v)
		}
	}
}

// P11.1: Of: of none, in whatever order dots come, and how often; those that aren't
// Right aren't there.
func TestOf(t *testing.T) {
	for _, x := range []struct {
		l    []api.Dot
		want api.Vector
	}{
		{nil, vec()},
		{[]api.Dot{}, vec()},
		{[]api.Dot{at(1, 1), at(1, 2), at(1, 5)}, vec(row(1, 1, 2, 5, 5))},
		{[]api.Dot{at(1, 5), at(1, 2), at(1, 1)}, vec(row(1, 1, 2, 5, 5))},
		// Rising, falling, mixed.
		{[]api.Dot{at(0, 1), at(0, 3), at(2, 1), at(2, 2), at(63, 7)}, vec(row(0, 1, 1, 3, 3), row(2, 1, 2), row(63, 7, 7))},
		{[]api.Dot{at(63, 7), at(2, 2), at(2, 1), at(0, 3), at(0, 1)}, vec(row(0, 1, 1, 3, 3), row(2, 1, 2), row(63, 7, 7))},
		{[]api.Dot{at(2, 2), at(0, 3), at(63, 7), at(2, 1), at(0, 1)}, vec(row(0, 1, 1, 3, 3), row(2, 1, 2), row(63, 7, 7))},
		// Several times there.
		{[]api.Dot{at(1, 1), at(1, 1)}, vec(row(1, 1, 1))},
		{[]api.Dot{at(1, 1), at(2, 3), at(1, 1), at(2, 3), at(1, 2), at(1, 2)}, vec(row(1, 1, 2), row(2, 3, 3))},
		// At the limits.
		{[]api.Dot{at(0, 1)}, vec(row(0, 1, 1))},
		{[]api.Dot{at(63, 1)}, vec(row(63, 1, 1))},
		{[]api.Dot{at(0, most)}, vec(row(0, most, most))},
		{[]api.Dot{at(63, most), at(63, 1), at(0, most), at(0, 1)}, vec(row(0, 1, 1, most, most), row(63, 1, 1, most, most))},
		// Not Right, alone and among others.
		{[]api.Dot{{}}, vec()},
		{[]api.Dot{at(-1, 1)}, vec()},
		{[]api.Dot{at(64, 1)}, vec()},
		{[]api.Dot{at(1, 0)}, vec()},
		{[]api.Dot{at(1, most+1)}, vec()},
		{[]api.Dot{at(256, 1), at(math.MinInt, 1), at(math.MaxInt, 1)}, vec()},
		{[]api.Dot{at(1, -1), at(1, math.MinInt64), at(1, math.MaxInt64)}, vec()},
		{[]api.Dot{at(-1, 2), at(1, 0), at(1, 1), at(64, 1), at(1, most+1), at(2, most), at(2, most+1)}, vec(row(1, 1, 1), row(2, most, most))},
	} {
		if v := vector.Of(x.l...); !equal(v, x.want) {
			t.Errorf("Of of %v: %v, not %v", x.l, v, x.want)
		}
		checkOf(t, x.l)
	}
	if v := vector.Of(); len(v.Rows) != 0 {
		t.Errorf("Of of no argument: %v", v)
	}
	if v := vector.Of(at(1, 5), at(0, 1), at(1, 6)); !equal(v, vec(row(0, 1, 1), row(1, 5, 6))) {
		t.Errorf("Of of three arguments: %v", v)
	}
}

// P11.1: Of: all lists of up to three dots of these; long lists, of few dots and of many.
func TestOfMany(t *testing.T) {
	var l []api.Dot
	for _, replica := range []int{-1, 0, 1, 63, 64} {
		for _, seq := range []int64{0, 1, 2, most, most + 1} {
			l = append(l, at(replica, seq))
		}
	}
	for _, a := range l {
		checkOf(t, []api.Dot{a})
		for _, b := range l {
			checkOf(t, []api.Dot{a, b})
			for _, c := range l {
				checkOf(t, []api.Dot{a, b, c})
			}
		}
	}
	for seed := range uint32(300) {
		l = nil
		for b := sample.Bytes(int(seed)*4, seed); len(b) >= 2; b = b[2:] {
			l = append(l, at(int(b[0])%(3+int(seed)%67)-1, int64(b[1])%(2+int64(seed)%200)-1))
		}
		checkOf(t, l)
	}
}

// P11.1: Has and Add: of a dot that is there, touches, is apart, has no row, isn't Right.
func TestHasAdd(t *testing.T) {
	v := vec(row(2, 1, 2, 5, 5), row(4, 3, 4), row(63, most-2, most-1))
	for _, x := range []struct {
		d    api.Dot
		has  bool
		want api.Vector
	}{
		// There already.
		{at(2, 1), true, v},
		{at(2, 2), true, v},
		{at(2, 5), true, v},
		{at(4, 3), true, v},
		{at(63, most-1), true, v},
		// Touching: the one ahead, the one behind, both; at both limits of a Seq.
		{at(2, 3), false, vec(row(2, 1, 3, 5, 5), v.Rows[1], v.Rows[2])},
		{at(2, 4), false, vec(row(2, 1, 2, 4, 5), v.Rows[1], v.Rows[2])},
		{at(4, 2), false, vec(v.Rows[0], row(4, 2, 4), v.Rows[2])},
		{at(4, 5), false, vec(v.Rows[0], row(4, 3, 5), v.Rows[2])},
		{at(63, most), false, vec(v.Rows[0], v.Rows[1], row(63, most-2, most))},
		// Apart.
		{at(2, 7), false, vec(row(2, 1, 2, 5, 5, 7, 7), v.Rows[1], v.Rows[2])},
		{at(4, 1), false, vec(v.Rows[0], row(4, 1, 1, 3, 4), v.Rows[2])},
		{at(63, 1), false, vec(v.Rows[0], v.Rows[1], row(63, 1, 1, most-2, most-1))},
		// A replica that has no row: ahead of all, between, behind others.
		{at(0, 1), false, vec(row(0, 1, 1), v.Rows[0], v.Rows[1], v.Rows[2])},
		{at(3, 5), false, vec(v.Rows[0], row(3, 5, 5), v.Rows[1], v.Rows[2])},
		{at(62, most), false, vec(v.Rows[0], v.Rows[1], row(62, most, most), v.Rows[2])},
		// Not Right.
		{api.Dot{}, false, vec()},
		{at(2, 0), false, vec()},
		{at(2, -1), false, vec()},
		{at(63, most+1), false, vec()},
		{at(-1, 1), false, vec()},
		{at(64, 1), false, vec()},
		{at(256+2, 1), false, vec()},
		{at(math.MinInt, 1), false, vec()},
		{at(math.MaxInt, 1), false, vec()},
		{at(2, math.MinInt64), false, vec()},
		{at(2, math.MaxInt64), false, vec()},
	} {
		if vector.Has(v, x.d) != x.has {
			t.Errorf("Has of %v, %v: %v", v, x.d, !x.has)
		}
		if out := vector.Add(v, x.d); !equal(out, x.want) {
			t.Errorf("Add of %v, %v: %v, not %v", v, x.d, out, x.want)
		}
		checkDot(t, v, x.d)
	}
	// Touching two ranges, which become one.
	if out := vector.Add(vec(row(2, 1, 2, 4, 5)), at(2, 3)); !equal(out, vec(row(2, 1, 5))) {
		t.Errorf("Add between two ranges: %v", out)
	}
	if out := vector.Add(vec(), at(5, 5)); !equal(out, vec(row(5, 5, 5))) {
		t.Errorf("Add to none: %v", out)
	}
}

// P11.1: Has and Add: of each vector, Right or not, and dots at and beside all ends.
func TestHasAddAll(t *testing.T) {
	for _, v := range slices.Concat(goods()[:13], bads()) {
		if len(v.Rows) > 10 {
			continue
		}
		for _, d := range probes(v) {
			checkDot(t, v, d)
		}
	}
	v := many()
	for _, d := range []api.Dot{at(0, 1), at(0, 2), at(30, 1), at(31, 32), at(31, 33), at(63, most), at(63, most-63), at(63, 2), at(64, 1)} {
		checkDot(t, v, d)
	}
}

// P11.1: Join and Minus: of none, itself, the same rows, none in common.
func TestJoinMinus(t *testing.T) {
	v := vec(row(2, 1, 2, 5, 7), row(4, 3, 4))
	bad := vec(row(2, 1, 2, 3, 4))
	for _, x := range []struct{ a, b, join, minus api.Vector }{
		{vec(), vec(), vec(), vec()},
		{v, vec(), v, v},
		{vec(), v, v, vec()},
		{v, v, v, vec()},
		// The same rows.
		{v, vec(row(2, 3, 5), row(4, 3, 3)), vec(row(2, 1, 7), row(4, 3, 4)), vec(row(2, 1, 2, 6, 7), row(4, 4, 4))},
		{v, vec(row(2, 9, 9), row(4, 1, 1)), vec(row(2, 1, 2, 5, 7, 9, 9), row(4, 1, 1, 3, 4)), v},
		// A row that is left with nothing: the first, the last, both.
		{v, vec(row(2, 1, 9)), vec(row(2, 1, 9), row(4, 3, 4)), vec(row(4, 3, 4))},
		{v, vec(row(4, 3, 4)), v, vec(row(2, 1, 2, 5, 7))},
		{v, vec(row(2, 1, most), row(4, 1, most)), vec(row(2, 1, most), row(4, 1, most)), vec()},
		// Some rows in common, and none.
		{v, vec(row(0, 1, 1), row(2, 6, 6), row(3, 1, 1)), vec(row(0, 1, 1), row(2, 1, 2, 5, 7), row(3, 1, 1), row(4, 3, 4)), vec(row(2, 1, 2, 5, 5, 7, 7), row(4, 3, 4))},
		{v, vec(row(0, 1, 1), row(3, 1, 7), row(63, 9, 9)), vec(row(0, 1, 1), row(2, 1, 2, 5, 7), row(3, 1, 7), row(4, 3, 4), row(63, 9, 9)), v},
		{vec(row(63, 1, most)), vec(row(0, 1, most)), vec(row(0, 1, most), row(63, 1, most)), vec(row(63, 1, most))},
		// Either isn't Right.
		{v, bad, vec(), vec()},
		{bad, v, vec(), vec()},
		{bad, bad, vec(), vec()},
		{bad, vec(), vec(), vec()},
		{vec(), bad, vec(), vec()},
		{v, vec(row(4)), vec(), vec()},
		{v, vec(row(2)), vec(), vec()},
		{vec(row(-1, 1, 1)), v, vec(), vec()},
		{v, vec(row(64, 1, 1)), vec(), vec()},
		{v, vec(row(4, 1, 1), row(2, 1, 1)), vec(), vec()},
		{vec(row(4, 1, 1), row(4, 3, 3)), v, vec(), vec()},
	} {
		if out := vector.Join(x.a, x.b); !equal(out, x.join) {
			t.Errorf("Join of %v, %v: %v, not %v", x.a, x.b, out, x.join)
		}
		if out := vector.Minus(x.a, x.b); !equal(out, x.minus) {
			t.Errorf("Minus of %v, %v: %v, not %v", x.a, x.b, out, x.minus)
		}
		checkTwo(t, x.a, x.b)
	}
}

// P11.1: Join, Minus and Same of each two of the vectors, Right or not.
func TestAllTwo(t *testing.T) {
	all := slices.Concat(goods(), bads())
	for _, a := range all {
		for _, b := range all {
			if len(a.Rows)+len(b.Rows) < 64 {
				checkTwo(t, a, b)
			}
		}
	}
	a := many()
	for _, b := range []api.Vector{vec(row(0, 1, 9)), vec(row(20, 7, 7), row(63, 1, most)), vec(row(7)), vector.Minus(a, vec(row(30, 1, most)))} {
		checkTwo(t, a, b)
		checkTwo(t, b, a)
	}
}

// P11.1: of vectors that aren't Right the calls answer nothing, wherever the vector
// stands.
func TestNothing(t *testing.T) {
	for _, v := range bads() {
		checkOne(t, v)
		for _, d := range []api.Dot{at(0, 1), at(3, 1), at(6, 1), at(7, 1), at(8, 1), at(63, most)} {
			if vector.Has(v, d) || len(vector.Add(v, d).Rows) != 0 {
				t.Errorf("%v has %v: %v, or with it: %v", v, d, vector.Has(v, d), vector.Add(v, d))
			}
			if vector.Base(v, d.Replica) != 0 || len(vector.Extra(v, d.Replica)) != 0 {
				t.Errorf("%v: Base, Extra of %d", v, d.Replica)
			}
		}
		if vector.Count(v) != 0 || len(vector.Bytes(v)) != 0 || vector.Same(v, v) {
			t.Errorf("%v: Count %d, Bytes %v, Same %v", v, vector.Count(v), vector.Bytes(v), vector.Same(v, v))
		}
		for _, other := range append(goods(), v, vec(row(7))) {
			for i, out := range []api.Vector{vector.Join(v, other), vector.Join(other, v), vector.Minus(v, other), vector.Minus(other, v)} {
				if len(out.Rows) != 0 {
					t.Errorf("%v and %v: call %d answers %v", v, other, i, out)
				}
			}
			if vector.Same(v, other) || vector.Same(other, v) {
				t.Errorf("%v is the same as %v", v, other)
			}
		}
	}
}

// P11.1: Count, Base and Extra.
func TestCountBaseExtra(t *testing.T) {
	v := vec(row(2, 1, 2, 5, 7), row(3, 1, 4), row(4, 2, 4), row(63, most, most))
	for _, x := range []struct {
		replica int
		base    int64
		extra   []api.Range
	}{
		{2, 2, row(0, 5, 7).Ranges},
		{3, 4, nil},
		{4, 0, row(0, 2, 4).Ranges},
		{63, 0, row(0, most, most).Ranges},
		{0, 0, nil},
		{1, 0, nil},
		{5, 0, nil},
		{-1, 0, nil},
		{64, 0, nil},
		{256 + 2, 0, nil},
		{math.MinInt, 0, nil},
		{math.MaxInt, 0, nil},
	} {
		if n := vector.Base(v, x.replica); n != x.base {
			t.Errorf("Base of %d: %d, not %d", x.replica, n, x.base)
		}
		if l := vector.Extra(v, x.replica); !slices.Equal(l, x.extra) {
			t.Errorf("Extra of %d: %v, not %v", x.replica, l, x.extra)
		}
	}
	for _, x := range []struct {
		v api.Vector
		n int64
	}{
		{vec(), 0},
		{vec(row(5, 7, 7)), 1},
		{v, 5 + 4 + 3 + 1},
		{vec(row(0, 1, most)), most},
		{vec(row(0, 1, most), row(1, 2, most), row(63, 1, 1)), 2 * most},
		{vec(row(0, 1, 9), row(1)), 0},
		{vec(row(1, 1, 9), row(0, 1, 9)), 0},
		{vec(row(0, 1, 9), row(1, 0, 9)), 0},
		{vec(row(0, 1, 9), row(64, 1, 9)), 0},
	} {
		if n := vector.Count(x.v); n != x.n {
			t.Errorf("Count of %v: %d, not %d", x.v, n, x.n)
		}
	}
	var all []api.Row
	for i := range 64 {
		all = append(all, row(i, 1, most))
	}
	if n := vector.Count(vec(all...)); n != 64*most {
		t.Errorf("Count of all there are: %d", n)
	}
}

// P11.1: Same: of the same dots, of unlike ones, of none, of what isn't Right.
func TestSame(t *testing.T) {
	v := vec(row(2, 1, 2, 5, 7), row(4, 3, 4))
	for _, x := range []struct {
		a, b api.Vector
		want bool
	}{
		{vec(), vec(), true},
		{api.Vector{Rows: []api.Row{}}, vec(), true},
		{v, v, true},
		{v, clone(v), true},
		{v, vec(), false},
		{v, vec(row(2, 1, 2, 5, 7)), false},
		{v, vec(row(4, 3, 4)), false},
		{v, vec(row(2, 1, 2, 5, 7), row(5, 3, 4)), false},
		{v, vec(row(2, 1, 2, 5, 7), row(4, 3, 5)), false},
		{v, vec(row(2, 1, 2, 5, 7), row(4, 2, 4)), false},
		{v, vec(row(2, 1, 2), row(4, 3, 4)), false},
		{v, vec(row(2, 1, 2, 5, 7, 9, 9), row(4, 3, 4)), false},
		{v, vec(row(2, 1, 2, 5, 7), row(4, 3, 4), row(5, 1, 1)), false},
		// As many dots of another replica, and of the same one.
		{vec(row(0, 1, 1)), vec(row(1, 1, 1)), false},
		{vec(row(0, 1, 1)), vec(row(0, 2, 2)), false},
		// Not Right: the same dots, by other ranges.
		{vec(row(0, 1, 3)), vec(row(0, 1, 1, 2, 3)), false},
		{vec(row(0, 1, 1), row(1, 1, 1)), vec(row(1, 1, 1), row(0, 1, 1)), false},
		{vec(row(0)), vec(row(0)), false},
		{vec(row(0)), vec(), false},
		{vec(row(64, 1, 1)), vec(row(64, 1, 1)), false},
		{vec(row(-1, 1, 1)), vec(row(-1, 1, 1)), false},
	} {
		if vector.Same(x.a, x.b) != x.want || vector.Same(x.b, x.a) != x.want {
			t.Errorf("Same of %v, %v: %v, %v", x.a, x.b, vector.Same(x.a, x.b), vector.Same(x.b, x.a))
		}
	}
}

// subsets: for each set of these dots their vector, and the dots.
func subsets(dots []api.Dot) ([]api.Vector, [][]api.Dot) {
	var vectors []api.Vector
	var lists [][]api.Dot
	for mask := range 1 << len(dots) {
		var l []api.Dot
		for i, d := range dots {
			if mask>>i&1 == 1 {
				l = append(l, d)
			}
		}
		vectors, lists = append(vectors, set(l...)), append(lists, l)
	}
	return vectors, lists
}

// P11.1, P11.3: dot by dot, of all vectors of few dots: Of, Has, Add, Join, Minus, Same.
func TestSets(t *testing.T) {
	for _, dots := range [][]api.Dot{
		{at(0, 1), at(0, 2), at(0, 3), at(0, 4), at(0, 5), at(0, 6), at(0, 7), at(0, 8)},
		{at(0, 1), at(0, 2), at(0, 3), at(1, 1), at(1, 2), at(1, 3), at(2, 1), at(2, 2)},
		{at(0, 1), at(0, most), at(7, 1), at(7, 3), at(7, 5), at(63, most-2), at(63, most-1), at(63, most)},
		{at(0, 9), at(9, 9), at(10, 1), at(20, 2), at(30, 3), at(40, 4), at(50, 1), at(60, most)},
	} {
		sets, lists := subsets(dots)
		for a := range sets {
			checkOne(t, sets[a])
			checkOf(t, lists[a])
			for i, d := range dots {
				if is := vector.Has(sets[a], d); is != (a>>i&1 == 1) {
					t.Fatalf("Has of %v, %v: %v", sets[a], d, is)
				}
				if out := vector.Add(sets[a], d); !equal(out, sets[a|1<<i]) {
					t.Fatalf("Add of %v, %v: %v", sets[a], d, out)
				}
			}
			for b := range sets {
				if out := vector.Join(sets[a], sets[b]); !equal(out, sets[a|b]) {
					t.Fatalf("Join of %v, %v: %v", sets[a], sets[b], out)
				}
				if out := vector.Minus(sets[a], sets[b]); !equal(out, sets[a&^b]) {
					t.Fatalf("Minus of %v, %v: %v", sets[a], sets[b], out)
				}
				if is := vector.Same(sets[a], sets[b]); is != (a == b) {
					t.Fatalf("Same of %v, %v: %v", sets[a], sets[b], is)
				}
			}
		}
	}
}

// P11.3: a lattice, by the calls alone: Join has both, whatever has both has it; it is
// the same in any order, of itself too.
func TestLattice(t *testing.T) {
	has := func(a, b api.Vector) bool { return len(vector.Minus(b, a).Rows) == 0 }
	sets, _ := subsets([]api.Dot{at(0, 1), at(0, 2), at(0, 4), at(5, 1), at(5, 2), at(63, most)})
	for _, l := range [][]api.Vector{sets, goods()} {
		for _, a := range l {
			if !vector.Same(vector.Join(a, a), a) || !vector.Same(vector.Join(a, vec()), a) {
				t.Fatalf("Join of %v and itself, or none", a)
			}
			for _, b := range l {
				both := vector.Join(a, b)
				if !has(both, a) || !has(both, b) || !vector.Same(both, vector.Join(b, a)) {
					t.Fatalf("Join of %v, %v: %v", a, b, both)
				}
				if has(a, b) != vector.Same(both, a) || has(a, b) && has(b, a) != vector.Same(a, b) {
					t.Fatalf("%v has %v: %v", a, b, has(a, b))
				}
				for _, c := range l {
					if has(c, both) != (has(c, a) && has(c, b)) {
						t.Fatalf("%v has the Join of %v, %v: %v", c, a, b, has(c, both))
					}
					if !vector.Same(vector.Join(both, c), vector.Join(a, vector.Join(b, c))) {
						t.Fatalf("Join of %v, %v, %v", a, b, c)
					}
				}
			}
		}
	}
}

// P11.1: Count and Minus, by the calls alone: what is in both is once in their Join.
func TestCounts(t *testing.T) {
	for _, a := range goods() {
		for _, b := range goods() {
			onlyA, onlyB := vector.Minus(a, b), vector.Minus(b, a)
			common := vector.Minus(a, onlyA)
			if !vector.Same(common, vector.Minus(b, onlyB)) {
				t.Errorf("common to %v, %v: %v", a, b, common)
			}
			sum := vector.Count(onlyA) + vector.Count(common) + vector.Count(onlyB)
			if n := vector.Count(vector.Join(a, b)); n != sum {
				t.Errorf("Count of the Join of %v, %v: %d, not %d", a, b, n, sum)
			}
		}
	}
}

// spoil: v with other numbers in all of its memory, the room behind included.
func spoil(v api.Vector) {
	for _, r := range v.Rows {
		spoilRanges(r.Ranges)
	}
	rows := v.Rows[:cap(v.Rows)]
	for i := range rows {
		rows[i] = row(-7, -7, -7)
	}
}

func spoilRanges(l []api.Range) {
	l = l[:cap(l)]
	for i := range l {
		l[i] = api.Range{From: -7, To: -7}
	}
}

// roomy: v, with room behind its rows and behind each of their ranges, and what stands
// there.
func roomy(v api.Vector) (api.Vector, func() bool) {
	out := clone(v)
	for i := range out.Rows {
		l := slices.Grow(out.Rows[i].Ranges, 3)
		behind := l[len(l):cap(l)]
		for k := range behind {
			behind[k] = api.Range{From: 77, To: 77}
		}
		out.Rows[i].Ranges = l
	}
	out.Rows = slices.Grow(out.Rows, 3)
	behind := out.Rows[len(out.Rows):cap(out.Rows)]
	for k := range behind {
		behind[k] = row(77, 77, 77)
	}
	return out, func() bool {
		for _, r := range out.Rows {
			for _, x := range r.Ranges[len(r.Ranges):cap(r.Ranges)] {
				if x != (api.Range{From: 77, To: 77}) {
					return false
				}
			}
		}
		for _, r := range behind {
			if !equal(vec(r), vec(row(77, 77, 77))) {
				return false
			}
		}
		return equal(out, v)
	}
}

// Rule 3: what is handed in stays, the room behind it too; what is answered is new
// memory, none of it in two lists, and isn't kept.
func TestKeptApart(t *testing.T) {
	calls := []func(a, b api.Vector) api.Vector{
		vector.Join,
		vector.Minus,
		func(a, b api.Vector) api.Vector { return vector.Join(a, a) },
		func(a, b api.Vector) api.Vector { return vector.Join(a, vec()) },
		func(a, b api.Vector) api.Vector { return vector.Join(vec(), a) },
		func(a, b api.Vector) api.Vector { return vector.Minus(a, vec()) },
		func(a, b api.Vector) api.Vector { return vector.Add(a, at(5, 4)) },
		func(a, b api.Vector) api.Vector { return vector.Add(a, at(1, 1)) },
		func(a, b api.Vector) api.Vector { return vector.Add(a, at(2, 9)) },
		func(a, b api.Vector) api.Vector { return vec(api.Row{Ranges: vector.Extra(a, 1)}) },
		func(a, b api.Vector) api.Vector { return vec(api.Row{Ranges: vector.Extra(a, 5)}) },
		func(a, b api.Vector) api.Vector { v, _, _ := vector.Take(vector.Bytes(a)); return v },
	}
	for i, call := range calls {
		for k, one := range goods() {
			for m, other := range goods() {
				a, stays := roomy(one)
				b, staysToo := roomy(other)
				out, again := call(a, b), call(a, b)
				want := clone(out)
				for r := range again.Rows {
					spoilRanges(again.Rows[r].Ranges)
					for s := range again.Rows {
						if s > r && !slices.Equal(again.Rows[s].Ranges, want.Rows[s].Ranges) {
							t.Fatalf("call %d of %d, %d: rows %d and %d share memory", i, k, m, r, s)
						}
					}
				}
				spoil(again)
				if !stays() || !staysToo() {
					t.Fatalf("call %d of %d, %d: %v, %v now", i, k, m, a, b)
				}
				spoil(a)
				spoil(b)
				if !equal(out, want) {
					t.Fatalf("call %d of %d, %d: what was answered is %v now, not %v", i, k, m, out, want)
				}
			}
		}
	}
}

// Rule 3: of lists of dots and of bytes, and what asks of a vector only.
func TestKeptApartBytes(t *testing.T) {
	dots := []api.Dot{at(9, 9), at(1, 2), at(1, 1), at(-1, 1), at(1, 4), at(2, 2)}
	was := slices.Clone(dots)
	v := vector.Of(dots[:4]...)
	spoil(vector.Of(dots[:4]...))
	if !slices.Equal(dots, was) {
		t.Errorf("Of changed %v to %v", was, dots)
	}
	clear(dots)
	if !equal(v, vec(row(1, 1, 2), row(9, 9, 9))) {
		t.Errorf("what Of answered is %v now", v)
	}

	for _, one := range goods() {
		a, stays := roomy(one)
		b, again := vector.Bytes(a), vector.Bytes(a)
		vector.Right(a)
		vector.Has(a, at(1, 4))
		vector.Count(a)
		vector.Base(a, 1)
		vector.Same(a, a)
		clear(again[:cap(again)])
		taken, _, _ := vector.Take(b)
		if !stays() {
			t.Errorf("%v is %v now", one, a)
		}
		spoil(a)
		if string(b) != string(written(one)) {
			t.Errorf("what Bytes answered is %v now", b)
		}
		clear(b)
		if !equal(taken, one) {
			t.Errorf("what Take answered is %v now", taken)
		}
	}
}

// sampled: a vector of these bytes: rows and ranges that are near one another.
func sampled(b []byte) api.Vector {
	var v api.Vector
	replica := -1
	for len(b) >= 2 {
		replica += 1 + int(b[0])%3
		if replica > 63 {
			break
		}
		end := int64(-1)
		r := api.Row{Replica: replica}
		for n := 1 + int(b[1])%6; n > 0 && len(b) >= 2; n, b = n-1, b[2:] {
			from := end + 2 + int64(b[0])%5
			end = from + int64(b[1])%5
			r.Ranges = append(r.Ranges, api.Range{From: from, To: end})
		}
		v.Rows = append(v.Rows, r)
	}
	return v
}

// P11.1, P11.2, P11.3: vectors of many rows and ranges.
func TestMany(t *testing.T) {
	for seed := range uint32(70) {
		a := sampled(sample.Bytes(int(seed)*3, seed))
		b := sampled(sample.Bytes(int(seed*7)%300, seed+1000))
		checkOne(t, a)
		checkTwo(t, a, b)
		checkTwo(t, b, a)
		for _, r := range b.Rows {
			checkDot(t, a, at(r.Replica, r.Ranges[0].From))
		}
	}
}

// P11.1, P11.3: whatever dots there are, near one another and far.
func FuzzDots(f *testing.F) {
	f.Add([]byte{}, uint8(0), uint8(0))
	f.Add([]byte{1, 1, 1, 2, 1, 5}, uint8(0), uint8(2))
	f.Add([]byte{0, 1, 63, 255, 64, 1, 255, 0, 7, 0, 0, 9, 7, 1}, uint8(32), uint8(4))
	f.Fuzz(func(t *testing.T, b []byte, far, cut uint8) {
		var l []api.Dot
		for b = b[:min(len(b), 60)]; len(b) >= 2; b = b[2:] {
			l = append(l, at(int(int8(b[0])), int64(int8(b[1]))))
			if len(b) >= 9 {
				l = append(l, at(int(b[0]), int64(binary.BigEndian.Uint64(b[1:])>>(far%64))))
			}
		}
		checkOf(t, l)
		n := int(cut) % (len(l) + 1)
		one, other := vector.Of(l[:n]...), vector.Of(l[n:]...)
		checkOne(t, one)
		checkTwo(t, one, other)
		for _, d := range l[:min(len(l), 8)] {
			checkDot(t, one, d)
		}
		if all := vector.Of(l...); !vector.Same(all, vector.Join(one, other)) {
			t.Fatalf("Of of %v: %v; of parts %v", l, all, vector.Join(one, other))
		}
	})
}

// P11.1, P11.2: whatever rows there are, Right or not.
func FuzzRows(f *testing.F) {
	for _, n := range []int64{math.MinInt64, -1, 0, 1, 2, 4, most, most + 1, math.MaxInt64} {
		f.Add(3, n, int64(9), int64(20), int64(30), 5, int64(1), n)
		f.Add(int(n), int64(1), int64(2), n, most, 63, n, n)
	}
	f.Fuzz(func(t *testing.T, r int, a, b, c, d int64, s int, e, g int64) {
		l := []api.Vector{vec(row(r, a, b, c, d)), vec(row(r, a, b), row(s, c, d)), vec(row(r, a, b, c, d), row(s, e, g)), vec(row(s, e, g)), vec(row(r), row(s, e, g))}
		for _, x := range l {
			checkOne(t, x)
			checkDot(t, x, at(r, a))
			checkDot(t, x, at(s, c))
			for _, y := range l {
				checkTwo(t, x, y)
			}
		}
	})
}
