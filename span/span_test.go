package span_test

import (
	"encoding/binary"
	"math"
	"slices"
	"testing"

	"newsreel/api"
	"newsreel/sample"
	"newsreel/span"
)

const most = int64(api.MaxSeq)

// Numbers at and about the limits, and the least and the greatest that there are.
var edges = []int64{math.MinInt64, math.MinInt64 + 1, -most, -2, -1, 0, 1, 2, 3, 4, 7, 1<<32 + 1, most - 2, most - 1, most, most + 1, most + 2, 1<<48 + 5, math.MaxInt64 - 1, math.MaxInt64}

// Lists that are Right.
var goods = [][]api.Range{
	nil,
	list(1, 1),
	list(2, 2),
	list(1, most),
	list(2, most),
	list(1, most-1),
	list(most, most),
	list(3, 5),
	list(1, 3, 5, 9),
	list(1, 1, 3, 3, 5, 5, 7, 7),
	list(2, 4, 6, 6, 10, 20),
	list(1, 2, most-1, most),
	list(4, 1<<32, 1<<32+2, most-2, most, most),
	list(2, most-1),
}

// Lists that aren't Right.
var bads = [][]api.Range{
	list(0, 0),
	list(0, 3),
	list(-1, 3),
	list(-4, -2),
	list(2, 1),
	list(1, 0),
	list(1, -1),
	list(1, most+1),
	list(most, most+1),
	list(most+1, most+1),
	list(most+1, most),
	list(math.MinInt64, 3),
	list(math.MinInt64, math.MaxInt64),
	list(math.MaxInt64, math.MaxInt64),
	list(math.MaxInt64, math.MinInt64),
	list(math.MinInt64, math.MinInt64),
	list(1, math.MaxInt64),
	list(1, 2, 3, 4),
	list(1, 2, 2, 5),
	list(1, 5, 2, 4),
	list(1, 5, 5, 9),
	list(4, 4, 4, 4),
	list(5, 6, 1, 2),
	list(3, 3, 1, 1),
	list(1, 1, 0, 5),
	list(0, 1, 5, 6),
	list(1, 2, 5, 4),
	list(1, 2, 5, 5, 6, 7),
	list(1, 2, 9, 9, 5, 6),
	list(1, 1, math.MinInt64, 9),
	list(1, 1, math.MaxInt64, math.MinInt64),
	list(1, most, most+2, most+2),
	list(1, most, math.MinInt64, math.MinInt64),
	list(1, math.MaxInt64, math.MinInt64, 5),
	list(1, 2, 4, most+1),
	list(1, 2, 0, 0),
}

func at(from, to int64) api.Range { return api.Range{From: from, To: to} }

// list: the ranges of these numbers, two of them a range.
func list(ends ...int64) []api.Range {
	var l []api.Range
	for i := 0; i < len(ends); i += 2 {
		l = append(l, at(ends[i], ends[i+1]))
	}
	return l
}

// isNumber: whether n is 1 to MaxSeq, by another hand.
func isNumber(n int64) bool { return n != 0 && uint64(n)>>40 == 0 }

// in: whether n is in a range of l, Right or not.
func in(l []api.Range, n int64) bool {
	for _, r := range l {
		if n >= r.From && n <= r.To {
			return true
		}
	}
	return false
}

// right: Right of l, by another hand: the ends of what is in, and those of what is out
// behind it, all rise.
func right(l []api.Range) bool {
	var ends []int64
	for _, r := range l {
		if !isNumber(r.From) || !isNumber(r.To) {
			return false
		}
		ends = append(ends, r.From, r.To+1)
	}
	for i := 1; i < len(ends); i++ {
		if ends[i-1] >= ends[i] {
			return false
		}
	}
	return true
}

// set: the list of the numbers from low on whose bits are in mask, by another hand.
func set(low int64, mask uint) []api.Range {
	var l []api.Range
	for n := low; mask != 0; mask, n = mask>>1, n+1 {
		if mask&1 == 0 {
			continue
		}
		if k := len(l) - 1; k >= 0 && l[k].To == n-1 {
			l[k].To = n
		} else {
			l = append(l, at(n, n))
		}
	}
	return l
}

// probes: numbers of which each list, if all have the same of them, has the same of all
// numbers: at the ends of each range, beside them, and at the limits.
func probes(lists ...[]api.Range) []int64 {
	l := slices.Clone(edges)
	for _, ranges := range lists {
		for _, r := range ranges {
			for _, n := range []int64{r.From, r.To} {
				l = append(l, n, max(n, math.MinInt64+1)-1, min(n, math.MaxInt64-1)+1)
			}
		}
	}
	return l
}

// checkSet: out is the one list of the numbers that want tells, which is of a and b.
func checkSet(t *testing.T, what string, a, b, out []api.Range, want func(n int64) bool) {
	t.Helper()
	if !right(out) {
		t.Fatalf("%s of %v, %v isn't Right: %v", what, a, b, out)
	}
	for _, n := range probes(a, b, out) {
		if in(out, n) != want(n) {
			t.Fatalf("%s of %v, %v: %v: %d is %v", what, a, b, out, n, in(out, n))
		}
	}
}

// checkTwo: Join and Minus of a and b, either of them Right or not.
func checkTwo(t *testing.T, a, b []api.Range) {
	t.Helper()
	wasA, wasB := slices.Clone(a), slices.Clone(b)
	joined, left := span.Join(a, b), span.Minus(a, b)
	if right(a) && right(b) {
		checkSet(t, "Join", a, b, joined, func(n int64) bool { return in(a, n) || in(b, n) })
		checkSet(t, "Minus", a, b, left, func(n int64) bool { return in(a, n) && !in(b, n) })
	} else if len(joined) != 0 || len(left) != 0 {
		t.Fatalf("of %v, %v: Join %v, Minus %v", a, b, joined, left)
	}
	if !slices.Equal(a, wasA) || !slices.Equal(b, wasB) {
		t.Fatalf("%v, %v are %v, %v now", wasA, wasB, a, b)
	}
}

// checkAdd: Add of l and r, either of them Right or not.
func checkAdd(t *testing.T, l []api.Range, r api.Range) {
	t.Helper()
	was := slices.Clone(l)
	one := []api.Range{r}
	out := span.Add(l, r)
	if right(l) && right(one) {
		checkSet(t, "Add", l, one, out, func(n int64) bool { return in(l, n) || in(one, n) })
	} else if len(out) != 0 {
		t.Fatalf("Add of %v, %v: %v", l, r, out)
	}
	if !slices.Equal(l, was) {
		t.Fatalf("Add of %v, %v made %v of it", was, r, l)
	}
}

// checkOne: Right, Has, Count and First of l, Right or not, and what l and none are.
func checkOne(t *testing.T, l []api.Range) {
	t.Helper()
	is := right(l)
	if span.Right(l) != is {
		t.Fatalf("Right of %v: %v", l, !is)
	}
	for _, n := range probes(l) {
		if span.Has(l, n) != (is && in(l, n)) {
			t.Fatalf("Has of %v, %d: %v", l, n, span.Has(l, n))
		}
	}
	var count, first int64
	if is {
		for i, r := range l {
			count += r.To - r.From + 1
			if i == 0 && in(l, 1) {
				first = r.To
			}
		}
	}
	if n := span.Count(l); n != count {
		t.Fatalf("Count of %v: %d, not %d", l, n, count)
	}
	if n := span.First(l); n != first {
		t.Fatalf("First of %v: %d, not %d", l, n, first)
	}
	checkTwo(t, l, nil)
	checkTwo(t, nil, l)
	checkTwo(t, l, l)
}

// checkOf: Of of l has each number of l that may be, and no other one.
func checkOf(t *testing.T, l []int64) {
	t.Helper()
	was := slices.Clone(l)
	out := span.Of(l...)
	if !slices.Equal(l, was) {
		t.Fatalf("Of changed %v to %v", was, l)
	}
	var ones []api.Range
	for _, n := range l {
		ones = append(ones, at(n, n))
	}
	checkSet(t, "Of", ones, nil, out, func(n int64) bool { return isNumber(n) && slices.Contains(l, n) })
}

// P10.1: Right: each end at its limits and one past them; two ranges that overlap,
// touch, are apart, or stand in the other order.
func TestRight(t *testing.T) {
	for _, x := range []struct {
		l    []api.Range
		want bool
	}{
		{nil, true},
		{[]api.Range{}, true},
		{list(-1, 5), false},
		{list(0, 5), false},
		{list(1, 5), true},
		{list(most, most), true},
		{list(most+1, most+1), false},
		{list(5, most), true},
		{list(5, most+1), false},
		{list(1, most), true},
		{list(0, most), false},
		{list(1, most+1), false},
		{list(math.MinInt64, 5), false},
		{list(5, math.MaxInt64), false},
		{list(math.MinInt64, math.MaxInt64), false},
		{list(math.MaxInt64, math.MinInt64), false},
		{list(1, 1), true},
		{list(5, 5), true},
		{list(5, 4), false},
		{list(2, 1), false},
		{list(1, 0), false},
		{list(most, most-1), false},
		{list(5, 1), false},
		{list(0, 0), false},
		// Overlapping, from one number to all of them.
		{list(1, 5, 2, 9), false},
		{list(1, 5, 5, 9), false},
		{list(1, 5, 2, 4), false},
		{list(1, 5, 1, 5), false},
		{list(2, 4, 1, 9), false},
		// Touching; one number apart, and more.
		{list(1, 5, 6, 9), false},
		{list(1, 5, 7, 9), true},
		{list(1, 5, 8, 9), true},
		{list(1, 1, 2, 2), false},
		{list(1, 1, 3, 3), true},
		{list(most-1, most-1, most, most), false},
		{list(most-2, most-2, most, most), true},
		{list(1, most-2, most, most), true},
		{list(1, most-1, most, most), false},
		// The other order.
		{list(7, 9, 1, 5), false},
		{list(3, 3, 1, 1), false},
		{list(most, most, 1, 1), false},
		// The wrong one first, in the middle, last.
		{list(1, 2, 4, 5, 7, 8), true},
		{list(0, 2, 4, 5, 7, 8), false},
		{list(2, 1, 4, 5, 7, 8), false},
		{list(1, 2, 3, 5, 7, 8), false},
		{list(1, 2, 5, 4, 7, 8), false},
		{list(1, 2, 4, 5, 6, 8), false},
		{list(1, 2, 4, 5, 8, 7), false},
		{list(1, 2, 4, 5, 7, most+1), false},
		{list(1, 2, 7, 8, 4, 5), false},
		{list(1, 2, 0, 0, 4, 5), false},
		// So far out that a sum of ends might wrap round.
		{list(1, most, most+2, most+3), false},
		{list(1, most, math.MinInt64, math.MinInt64), false},
		{list(1, math.MaxInt64, math.MinInt64+1, 5), false},
	} {
		if span.Right(x.l) != x.want {
			t.Errorf("Right of %v: %v", x.l, !x.want)
		}
		checkOne(t, x.l)
	}
	for _, l := range goods {
		if !span.Right(l) {
			t.Errorf("Right of %v: false", l)
		}
	}
	for _, l := range bads {
		if span.Right(l) {
			t.Errorf("Right of %v: true", l)
		}
	}
}

// P10.1, P10.2: all lists of one range with ends at the edges, and of two with ends at
// some of them.
func TestAllEdges(t *testing.T) {
	few := []int64{math.MinInt64, 0, 1, 3, 5, most - 2, most, most + 1, math.MaxInt64}
	for _, a := range edges {
		for _, b := range edges {
			checkOne(t, list(a, b))
		}
	}
	for _, a := range few {
		for _, b := range few {
			for _, c := range few {
				for _, d := range few {
					checkOne(t, list(a, b, c, d))
				}
			}
		}
	}
}

// P10.1: a set of numbers has just one list: of all lists of up to three ranges within
// 0 to 6 those that are Right are as many as the sets that have so many, each another.
func TestOneList(t *testing.T) {
	sets := map[uint]int{}
	try := func(l []api.Range) {
		checkOne(t, l)
		if !span.Right(l) {
			return
		}
		var mask uint
		for n := range int64(7) {
			if in(l, n) {
				mask |= 1 << n
			}
		}
		sets[mask]++
	}
	var ranges []api.Range
	for from := range int64(7) {
		for to := range int64(7) {
			ranges = append(ranges, at(from, to))
		}
	}
	try(nil)
	for _, a := range ranges {
		try([]api.Range{a})
		for _, b := range ranges {
			try([]api.Range{a, b})
			for _, c := range ranges {
				try([]api.Range{a, b, c})
			}
		}
	}
	for mask, n := range sets {
		if n != 1 || mask&1 != 0 {
			t.Errorf("%d lists of the numbers of %b", n, mask)
		}
	}
	if len(sets) != 64 {
		t.Errorf("%d sets have a list, not 64", len(sets))
	}
}

// P10.1: Of: in whatever order numbers come, and how often; those that can't be aren't.
func TestOf(t *testing.T) {
	for _, x := range []struct {
		l    []int64
		want []api.Range
	}{
		{nil, nil},
		{[]int64{}, nil},
		{[]int64{5, 1, 2}, list(1, 2, 5, 5)},
		{[]int64{1}, list(1, 1)},
		{[]int64{1, 2, 3, 4}, list(1, 4)},
		{[]int64{4, 3, 2, 1}, list(1, 4)},
		{[]int64{2, 4, 6}, list(2, 2, 4, 4, 6, 6)},
		{[]int64{6, 4, 2}, list(2, 2, 4, 4, 6, 6)},
		{[]int64{1, 3, 2}, list(1, 3)},
		{[]int64{7, 7, 7}, list(7, 7)},
		{[]int64{1, 2, 1, 2, 9, 1, 9}, list(1, 2, 9, 9)},
		{[]int64{0}, nil},
		{[]int64{-1}, nil},
		{[]int64{most + 1}, nil},
		{[]int64{most}, list(most, most)},
		{[]int64{math.MinInt64}, nil},
		{[]int64{math.MaxInt64}, nil},
		{[]int64{0, 1}, list(1, 1)},
		{[]int64{1, 0, -1}, list(1, 1)},
		{[]int64{most + 1, most, most - 1}, list(most-1, most)},
		{[]int64{most, 1}, list(1, 1, most, most)},
		{[]int64{math.MaxInt64, most + 2, most + 1, most, 1, 0, -1, math.MinInt64}, list(1, 1, most, most)},
	} {
		if l := span.Of(x.l...); !slices.Equal(l, x.want) {
			t.Errorf("Of of %v: %v, not %v", x.l, l, x.want)
		}
		checkOf(t, x.l)
	}
	if l := span.Of(); len(l) != 0 {
		t.Errorf("Of of no argument: %v", l)
	}
	if l := span.Of(5, 1, 2); !slices.Equal(l, list(1, 2, 5, 5)) {
		t.Errorf("Of of three arguments: %v", l)
	}
}

// P10.1: Of: all lists of up to three numbers of the edges.
func TestOfAll(t *testing.T) {
	for _, a := range edges {
		checkOf(t, []int64{a})
		for _, b := range edges {
			checkOf(t, []int64{a, b})
			for _, c := range edges {
				checkOf(t, []int64{a, b, c})
			}
		}
	}
}

// P10.1: Of: long lists, of few numbers and of many.
func TestOfMany(t *testing.T) {
	for seed := range uint32(300) {
		var l []int64
		for _, b := range sample.Bytes(int(seed), seed) {
			l = append(l, int64(b)%(2+int64(seed)%200)-1)
		}
		checkOf(t, l)
	}
}

// P10.1: of lists that aren't Right the calls answer nothing, of each call wherever the
// list stands.
func TestNothing(t *testing.T) {
	for _, l := range bads {
		checkOne(t, l)
		for _, n := range edges {
			if span.Has(l, n) {
				t.Errorf("Has of %v, %d", l, n)
			}
		}
		if span.Count(l) != 0 || span.First(l) != 0 {
			t.Errorf("%v: Count %d, First %d", l, span.Count(l), span.First(l))
		}
		for _, other := range slices.Concat(goods, bads) {
			for i, out := range [][]api.Range{span.Join(l, other), span.Join(other, l), span.Minus(l, other), span.Minus(other, l)} {
				if len(out) != 0 {
					t.Errorf("%v and %v: call %d answers %v", l, other, i, out)
				}
			}
		}
		for _, r := range []api.Range{at(1, 1), at(1, most), at(most, most), at(20, 30)} {
			if out := span.Add(l, r); len(out) != 0 {
				t.Errorf("Add of %v, %v: %v", l, r, out)
			}
		}
		if len(l) > 1 {
			continue
		}
		for _, good := range goods {
			if out := span.Add(good, l[0]); len(out) != 0 {
				t.Errorf("Add of %v, %v: %v", good, l[0], out)
			}
		}
	}
}

// P10.2: Has: at both ends of each range, just outside of them, and at the limits.
func TestHas(t *testing.T) {
	l := list(1, 1, 3, 5, 7, 8, most-1, most)
	for _, x := range []struct {
		n    int64
		want bool
	}{
		{-1, false}, {0, false}, {1, true}, {2, false},
		{3, true}, {4, true}, {5, true}, {6, false},
		{7, true}, {8, true}, {9, false},
		{most - 2, false}, {most - 1, true}, {most, true}, {most + 1, false},
		{math.MinInt64, false}, {math.MaxInt64, false},
	} {
		if span.Has(l, x.n) != x.want {
			t.Errorf("Has of %v, %d: %v", l, x.n, !x.want)
		}
	}
	for _, n := range edges {
		if span.Has(nil, n) {
			t.Errorf("Has of none, %d", n)
		}
		if span.Has(list(1, most), n) != isNumber(n) {
			t.Errorf("Has of all, %d: %v", n, !isNumber(n))
		}
	}
}

// P10.2: Add: of a range that is apart, touches, overlaps, covers, is there.
func TestAdd(t *testing.T) {
	l := list(3, 5, 9, 9, 12, 20)
	for _, x := range []struct {
		l    []api.Range
		r    api.Range
		want []api.Range
	}{
		{nil, at(4, 7), list(4, 7)},
		{nil, at(1, most), list(1, most)},
		// Apart: ahead, between, behind.
		{l, at(1, 1), list(1, 1, 3, 5, 9, 9, 12, 20)},
		{l, at(7, 7), list(3, 5, 7, 7, 9, 9, 12, 20)},
		{l, at(22, 30), list(3, 5, 9, 9, 12, 20, 22, 30)},
		{l, at(most, most), list(3, 5, 9, 9, 12, 20, most, most)},
		// Touching the one behind, the one ahead, both.
		{l, at(1, 2), list(1, 5, 9, 9, 12, 20)},
		{l, at(8, 8), list(3, 5, 8, 9, 12, 20)},
		{l, at(6, 7), list(3, 7, 9, 9, 12, 20)},
		{l, at(21, 21), list(3, 5, 9, 9, 12, 21)},
		{l, at(6, 8), list(3, 9, 12, 20)},
		{l, at(10, 11), list(3, 5, 9, 20)},
		// There already.
		{l, at(3, 5), l},
		{l, at(4, 4), l},
		{l, at(9, 9), l},
		{l, at(12, 12), l},
		{l, at(20, 20), l},
		// Overlapping.
		{l, at(2, 3), list(2, 5, 9, 9, 12, 20)},
		{l, at(5, 6), list(3, 6, 9, 9, 12, 20)},
		{l, at(5, 9), list(3, 9, 12, 20)},
		{l, at(4, 15), list(3, 20)},
		// Covering several.
		{l, at(8, 30), list(3, 5, 8, 30)},
		{l, at(1, 10), list(1, 10, 12, 20)},
		{l, at(3, 20), list(3, 20)},
		{l, at(1, most), list(1, most)},
		// Not Right.
		{l, at(0, 1), nil},
		{l, at(-1, 1), nil},
		{l, at(5, 4), nil},
		{l, at(20, most+1), nil},
		{l, at(most+1, most+1), nil},
		{l, at(0, 0), nil},
		{nil, at(0, 0), nil},
		{nil, at(3, 2), nil},
		{list(1, 2, 3, 4), at(1, 1), nil},
	} {
		if out := span.Add(x.l, x.r); !slices.Equal(out, x.want) {
			t.Errorf("Add of %v, %v: %v, not %v", x.l, x.r, out, x.want)
		}
		checkAdd(t, x.l, x.r)
	}
	for _, l := range slices.Concat(goods, bads) {
		for _, from := range edges {
			for _, to := range edges {
				checkAdd(t, l, at(from, to))
			}
		}
	}
}

// P10.2: Join: of none, of itself, of lists that touch, cover and part one another.
func TestJoin(t *testing.T) {
	l := list(3, 5, 9, 9, 12, 20)
	for _, x := range []struct{ a, b, want []api.Range }{
		{nil, nil, nil},
		{l, nil, l},
		{l, l, l},
		{list(1, most), list(1, most), list(1, most)},
		{l, list(6, 8), list(3, 9, 12, 20)},
		{l, list(1, 2, 6, 8, 10, 11, 21, most), list(1, most)},
		{l, list(7, 7), list(3, 5, 7, 7, 9, 9, 12, 20)},
		{l, list(1, most), list(1, most)},
		{l, list(2, 30), list(2, 30)},
		{l, list(4, 4, 13, 13, 15, 18), l},
		{l, list(3, 3, 9, 10, 12, 30), list(3, 5, 9, 10, 12, 30)},
		{list(1, 1, 3, 3, 5, 5), list(2, 2, 4, 4), list(1, 5)},
		{list(1, 1), list(most, most), list(1, 1, most, most)},
		{list(1, most-1), list(most, most), list(1, most)},
		{list(1, 10), list(2, 3, 5, 6), list(1, 10)},
		{list(1, 2, 3, 4), l, nil},
		{list(0, 0), list(1, 1), nil},
		{list(1, most+1), nil, nil},
		{list(2, 1), list(2, 1), nil},
	} {
		if out := span.Join(x.a, x.b); !slices.Equal(out, x.want) {
			t.Errorf("Join of %v, %v: %v, not %v", x.a, x.b, out, x.want)
		}
		if out := span.Join(x.b, x.a); !slices.Equal(out, x.want) {
			t.Errorf("Join of %v, %v: %v, not %v", x.b, x.a, out, x.want)
		}
	}
}

// P10.2: Minus: of none, of itself, of lists that touch, cover and part one another.
func TestMinus(t *testing.T) {
	l := list(3, 5, 9, 9, 12, 20)
	for _, x := range []struct{ a, b, want []api.Range }{
		{nil, nil, nil},
		{nil, l, nil},
		{l, nil, l},
		{l, l, nil},
		{list(1, most), nil, list(1, most)},
		{list(1, most), list(1, most), nil},
		{list(1, most), l, list(1, 2, 6, 8, 10, 11, 21, most)},
		{list(1, most), list(1, 1), list(2, most)},
		{list(1, most), list(most, most), list(1, most-1)},
		{list(1, most), list(2, most-1), list(1, 1, most, most)},
		{l, list(1, most), nil},
		{l, list(1, 2, 6, 8, 10, 11, 21, most), l},
		{l, list(4, 4), list(3, 3, 5, 5, 9, 9, 12, 20)},
		{l, list(3, 3, 9, 9, 12, 13), list(4, 5, 14, 20)},
		{l, list(5, 5, 20, 20), list(3, 4, 9, 9, 12, 19)},
		{l, list(13, 13, 15, 18), list(3, 5, 9, 9, 12, 12, 14, 14, 19, 20)},
		{l, list(5, 12), list(3, 4, 13, 20)},
		{l, list(1, 15), list(16, 20)},
		{l, list(4, most), list(3, 3)},
		{list(1, 2, 3, 4), list(1, 1), nil},
		{list(1, 1), list(1, 2, 3, 4), nil},
		{list(5, 5), list(0, 0), nil},
		{list(0, 9), nil, nil},
		{nil, list(0, 9), nil},
		{list(5, most+1), list(9, 9), nil},
	} {
		if out := span.Minus(x.a, x.b); !slices.Equal(out, x.want) {
			t.Errorf("Minus of %v, %v: %v, not %v", x.a, x.b, out, x.want)
		}
	}
}

// P10.1, P10.2: Join and Minus of each two of the lists, Right or not.
func TestAllTwo(t *testing.T) {
	all := slices.Concat(goods, bads)
	for _, a := range all {
		for _, b := range all {
			checkTwo(t, a, b)
		}
	}
}

// P10.2: Count and First: of none, of all numbers, of lists that begin at 1 and don't.
func TestCountFirst(t *testing.T) {
	for _, x := range []struct {
		l            []api.Range
		count, first int64
	}{
		{nil, 0, 0},
		{[]api.Range{}, 0, 0},
		{list(1, 1), 1, 1},
		{list(1, 9), 9, 9},
		{list(2, 9), 8, 0},
		{list(2, 2), 1, 0},
		{list(1, most), most, most},
		{list(2, most), most - 1, 0},
		{list(most, most), 1, 0},
		{list(1, 3, 5, 9), 8, 3},
		{list(1, 1, 3, most), most - 1, 1},
		{list(2, 3, 5, 9), 7, 0},
		{list(1, 1, 3, 3, 5, 5), 3, 1},
		// Not Right.
		{list(0, 9), 0, 0},
		{list(1, most+1), 0, 0},
		{list(1, 0), 0, 0},
		{list(1, 3, 4, 9), 0, 0},
		{list(1, 3, 2, 9), 0, 0},
		{list(1, 3, 5, 4), 0, 0},
		{list(1, math.MaxInt64), 0, 0},
	} {
		if n := span.Count(x.l); n != x.count {
			t.Errorf("Count of %v: %d, not %d", x.l, n, x.count)
		}
		if n := span.First(x.l); n != x.first {
			t.Errorf("First of %v: %d, not %d", x.l, n, x.first)
		}
		checkOne(t, x.l)
	}
}

// P10.3: number by number, of all sets of eight numbers side by side, at the beginning
// of the numbers and at their end.
func TestSets(t *testing.T) {
	for _, low := range []int64{1, 2, 1<<32 - 3, most - 7} {
		var sets [][]api.Range
		for mask := range uint(256) {
			sets = append(sets, set(low, mask))
			checkOne(t, sets[mask])
		}
		for a := range sets {
			for b := range sets {
				if l := span.Join(sets[a], sets[b]); !slices.Equal(l, sets[a|b]) {
					t.Fatalf("Join of %v, %v: %v", sets[a], sets[b], l)
				}
				if l := span.Minus(sets[a], sets[b]); !slices.Equal(l, sets[a&^b]) {
					t.Fatalf("Minus of %v, %v: %v", sets[a], sets[b], l)
				}
			}
			for from := range int64(8) {
				for to := from; to < 8; to++ {
					both := a | (1<<(to+1) - 1<<from)
					if l := span.Add(sets[a], at(low+from, low+to)); !slices.Equal(l, sets[both]) {
						t.Fatalf("Add of %v, %d to %d: %v", sets[a], low+from, low+to, l)
					}
				}
			}
		}
	}
}

// P10.3: what holds of any union and difference, by the calls alone.
func TestUnionDifference(t *testing.T) {
	for _, a := range goods {
		for _, b := range goods {
			both, onlyA, onlyB := span.Join(a, b), span.Minus(a, b), span.Minus(b, a)
			common := span.Minus(a, onlyA)
			if !slices.Equal(both, span.Join(b, a)) || !slices.Equal(both, span.Join(onlyA, b)) || !slices.Equal(common, span.Minus(b, onlyB)) {
				t.Errorf("%v, %v: both %v, only one %v, the other %v", a, b, both, onlyA, onlyB)
			}
			if span.Count(both) != span.Count(onlyA)+span.Count(common)+span.Count(onlyB) {
				t.Errorf("%v, %v: of %v there are %d", a, b, both, span.Count(both))
			}
			for _, c := range goods {
				if l := span.Join(both, c); !slices.Equal(l, span.Join(a, span.Join(b, c))) {
					t.Errorf("Join of %v, %v, %v: %v", a, b, c, l)
				}
				if l := span.Minus(onlyA, c); !slices.Equal(l, span.Minus(a, span.Join(b, c))) {
					t.Errorf("Minus of %v, %v, %v: %v", a, b, c, l)
				}
			}
		}
	}
}

// row: ranges that rise, of these bytes: how long each is, and how far behind the one
// ahead.
func row(b []byte) []api.Range {
	var l []api.Range
	end := int64(-1)
	for ; len(b) >= 2; b = b[2:] {
		from := end + 2 + int64(b[0])%5
		end = from + int64(b[1])%5
		l = append(l, at(from, end))
	}
	return l
}

// P10.2, P10.3: long lists.
func TestMany(t *testing.T) {
	for seed := range uint32(200) {
		a := row(sample.Bytes(int(seed), seed))
		b := row(sample.Bytes(int(seed*7)%200, seed+1000))
		checkOne(t, a)
		checkTwo(t, a, b)
		checkTwo(t, b, a)
		for _, r := range b {
			checkAdd(t, a, r)
		}
	}
}

// Rule 3: what is handed in stays, the room behind it too; what is answered is new
// memory, and isn't kept.
func TestKeptApart(t *testing.T) {
	room := list(3, 5, 9, 9, 12, 20, 30, 40)
	other := list(1, 1, 4, 10, 20, 25, 50, 60)
	spoil := func(l []api.Range) {
		l = l[:cap(l)]
		for i := range l {
			l[i] = at(-7, -7)
		}
	}
	for n := range len(room) + 1 {
		for k := range len(other) + 1 {
			calls := []func(a, b []api.Range) []api.Range{
				span.Join,
				span.Minus,
				func(a, b []api.Range) []api.Range { return span.Join(a, a) },
				func(a, b []api.Range) []api.Range { return span.Minus(a, nil) },
				func(a, b []api.Range) []api.Range { return span.Join(nil, a) },
				func(a, b []api.Range) []api.Range { return span.Join(a, nil) },
				func(a, b []api.Range) []api.Range { return span.Add(a, at(6, 8)) },
				func(a, b []api.Range) []api.Range { return span.Add(a, at(3, 3)) },
				func(a, b []api.Range) []api.Range { return span.Add(a, at(70, 80)) },
			}
			for i, call := range calls {
				a, b := slices.Clone(room), slices.Clone(other)
				out := call(a[:n], b[:k])
				want := slices.Clone(out)
				again := call(a[:n], b[:k])
				spoil(out)
				if !slices.Equal(a, room) || !slices.Equal(b, other) {
					t.Fatalf("call %d of %d and %d ranges: %v, %v are %v, %v now", i, n, k, room, other, a, b)
				}
				spoil(a)
				spoil(b)
				if !slices.Equal(again, want) {
					t.Fatalf("call %d of %d and %d ranges: what was answered is %v now, not %v", i, n, k, again, want)
				}
			}
			span.Right(room[:n])
			span.Has(room[:n], 4)
			span.Count(room[:n])
			span.First(room[:n])
		}
	}
	if !slices.Equal(room, list(3, 5, 9, 9, 12, 20, 30, 40)) {
		t.Errorf("what was handed in is %v now", room)
	}

	numbers := []int64{9, 3, 3, 0, 1, 2, 7, 8}
	was := slices.Clone(numbers)
	first, second := span.Of(numbers[:5]...), span.Of(numbers[:5]...)
	spoil(first)
	if !slices.Equal(numbers, was) {
		t.Errorf("Of changed %v to %v", was, numbers)
	}
	clear(numbers)
	if !slices.Equal(second, list(1, 1, 3, 3, 9, 9)) {
		t.Errorf("what Of answered is %v now", second)
	}
}

// P10.1, P10.2, P10.3: whatever ranges there are.
func FuzzRanges(f *testing.F) {
	for _, n := range edges {
		f.Add(int64(1), int64(2), n, n, int64(3), int64(5))
		f.Add(int64(1), n, int64(4), int64(9), n, most)
	}
	f.Fuzz(func(t *testing.T, a, b, c, d, e, g int64) {
		l := list(a, b, c, d, e, g)
		for n := range len(l) + 1 {
			checkOne(t, l[:n])
			checkTwo(t, l[:n], l[n:])
			checkTwo(t, l[n:], l[:n])
		}
		for _, r := range l {
			checkAdd(t, l[:2], r)
			checkAdd(t, l[2:], r)
		}
		checkOf(t, []int64{a, b, c, d, e, g})
	})
}

// P10.1, P10.2, P10.3: whatever numbers there are, near one another and far.
func FuzzOf(f *testing.F) {
	f.Add([]byte{}, uint8(0), uint8(0))
	f.Add([]byte{5, 1, 2}, uint8(3), uint8(1))
	f.Add([]byte{0, 1, 2, 4, 4, 9, 255}, uint8(200), uint8(4))
	f.Fuzz(func(t *testing.T, b []byte, far, cut uint8) {
		var l []int64
		for _, x := range b {
			l = append(l, int64(x))
		}
		for ; len(b) >= 8; b = b[8:] {
			l = append(l, int64(binary.BigEndian.Uint64(b)>>(far%64)))
		}
		checkOf(t, l)
		n := int(cut) % (len(l) + 1)
		one, other := span.Of(l[:n]...), span.Of(l[n:]...)
		checkOne(t, one)
		checkTwo(t, one, other)
		if all := span.Of(l...); !slices.Equal(all, span.Join(one, other)) {
			t.Fatalf("Of of %v: %v; of parts %v", l, all, span.Join(one, other))
		}
	})
}
