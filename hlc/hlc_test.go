package hlc_test

import (
	"encoding/binary"
	"math"
	"testing"

	"newsreel/api"
	"newsreel/hlc"
	"newsreel/sample"
	"newsreel/stamp"
)

// Numbers at and about the limits of what a clock is made with, and of what it is told.
var (
	replicas = []int{math.MinInt, -1, 0, 1, 62, 63, 64, 65, 256, math.MaxInt}
	mosts    = []int{math.MinInt, -1, 0, 1, 2, api.MaxLogic - 1, api.MaxLogic, api.MaxLogic + 1, math.MaxInt}
	drifts   = []int64{math.MinInt64, -1, 0, 1, 10, api.MaxPhys - 1, api.MaxPhys, api.MaxPhys + 1, math.MaxInt64}
	nows     = []int64{math.MinInt64, math.MinInt64 + 1, -2, -1, 0, 1, 2, 9, 10, 11, 12, api.MaxPhys - 11, api.MaxPhys - 10, api.MaxPhys - 2, api.MaxPhys - 1, api.MaxPhys, api.MaxPhys + 1, api.MaxPhys + 2, math.MaxInt64 - 1, math.MaxInt64}
	lasts    = []api.Stamp{{}, at(0, 1, 0), at(0, 2, 0), at(0, 3, 0), at(10, 0, 0), at(10, 1, 0), at(10, 2, 0), at(10, 3, 0), at(10, api.MaxLogic-1, 0), at(10, api.MaxLogic, 0), at(11, 0, 0), at(api.MaxPhys-1, 0, 0), at(api.MaxPhys-1, api.MaxLogic, 0), at(api.MaxPhys, 0, 0), at(api.MaxPhys, 1, 0), at(api.MaxPhys, 2, 0), at(api.MaxPhys, 3, 0), at(api.MaxPhys, api.MaxLogic-1, 0), at(api.MaxPhys, api.MaxLogic, 0)}
	wrong    = []api.Stamp{at(-1, 0, 0), at(math.MinInt64, 0, 0), at(api.MaxPhys+1, 0, 0), at(math.MaxInt64, 0, 0), at(0, -1, 0), at(0, math.MinInt, 0), at(0, api.MaxLogic+1, 0), at(0, math.MaxInt, 0), at(0, 0, -1), at(0, 0, math.MinInt), at(0, 0, 64), at(0, 0, math.MaxInt), at(10, 65536+5, 3), at(10, 2, 256+3)}
)

func at(phys int64, logic, replica int) api.Stamp {
	return api.Stamp{Phys: phys, Logic: logic, Replica: replica}
}

// hand is a clock by another hand: Phys and Logic are one number of 64 bits, the
// Logic its lowest 16.
type hand struct {
	count   uint64
	most    uint64
	drift   int64
	replica int
}

func (h *hand) stamp(count uint64) api.Stamp {
	return at(int64(count>>16), int(count&0xffff), h.replica)
}

func (h *hand) peek(now int64) (uint64, api.Errno) {
	if now>>48 != 0 {
		return 0, api.ErrRange
	}
	next := h.count + 1
	if h.count&0xffff >= h.most {
		next = (h.count>>16 + 1) << 16 // 0, where no Phys is left
	}
	if next == 0 {
		return 0, api.ErrClock
	}
	next = max(next, uint64(now)<<16)
	if int64(next>>16)-now > h.drift {
		return 0, api.ErrDrift
	}
	return next, api.OK
}

func (h *hand) check(now int64, s api.Stamp) api.Errno {
	switch {
	case now>>48 != 0:
		return api.ErrRange
	case s.Phys>>48 != 0 || s.Logic>>16 != 0 || s.Replica>>6 != 0:
		return api.ErrForm
	case s.Phys-now > h.drift:
		return api.ErrDrift
	}
	return api.OK
}

func (h *hand) witness(s api.Stamp) {
	h.count = max(h.count, uint64(s.Phys)<<16|uint64(s.Logic))
}

func (h *hand) floor(phys int64) {
	switch {
	case phys < 0:
		phys = 0
	case phys>>48 != 0:
		phys = 1<<48 - 1
	}
	h.count = max(h.count, uint64(phys)<<16|h.most)
}

// pair: a clock and one by another hand, told the same.
type pair struct {
	t     *testing.T
	clock *hlc.Clock
	hand  hand
}

func both(t *testing.T, replica, most int, drift int64) *pair {
	t.Helper()
	c, errno := hlc.New(replica, most, drift)
	if errno != api.OK || c == nil {
		t.Fatalf("New(%d, %d, %d): %v, %d", replica, most, drift, c, errno)
	}
	p := &pair{t, c, hand{0, uint64(most), drift, replica}}
	p.same("New")
	return p
}

// from: both of a clock whose Last is s, but for the Replica.
func from(t *testing.T, replica, most int, drift int64, s api.Stamp) *pair {
	t.Helper()
	p := both(t, replica, most, drift)
	p.witness(api.MaxPhys, s)
	if p.clock.Last() != at(s.Phys, s.Logic, replica) {
		t.Fatalf("Last behind Witness of %v: %v", s, p.clock.Last())
	}
	return p
}

// same: Last of both is the same, asked twice.
func (p *pair) same(call string) {
	p.t.Helper()
	want := p.hand.stamp(p.hand.count)
	if s, again := p.clock.Last(), p.clock.Last(); s != want || again != want {
		p.t.Errorf("Last behind %s: %v, and again %v, not %v", call, s, again, want)
	}
}

// next: Peek twice, then Next.
func (p *pair) next(now int64) (api.Stamp, api.Errno) {
	p.t.Helper()
	was := p.clock.Last()
	count, errno := p.hand.peek(now)
	var want api.Stamp
	if errno == api.OK {
		want = p.hand.stamp(count)
	}
	for range 2 {
		if s, e := p.clock.Peek(now); s != want || e != errno {
			p.t.Errorf("Peek(%d) behind %v: %v, %d, not %v, %d", now, was, s, e, want, errno)
		}
		p.same("Peek")
	}
	s, e := p.clock.Next(now)
	if s != want || e != errno {
		p.t.Errorf("Next(%d) behind %v: %v, %d, not %v, %d", now, was, s, e, want, errno)
	}
	if errno == api.OK {
		p.hand.count = count
	}
	p.same("Next")
	return s, e
}

// witness: Check twice, then Witness.
func (p *pair) witness(now int64, s api.Stamp) api.Errno {
	p.t.Helper()
	want := p.hand.check(now, s)
	for range 2 {
		if e := p.clock.Check(now, s); e != want {
			p.t.Errorf("Check(%d, %v): %d, not %d", now, s, e, want)
		}
		p.same("Check")
	}
	e := p.clock.Witness(now, s)
	if e != want {
		p.t.Errorf("Witness(%d, %v): %d, not %d", now, s, e, want)
	}
	if want == api.OK {
		p.hand.witness(s)
	}
	p.same("Witness")
	return e
}

func (p *pair) floor(phys int64) {
	p.t.Helper()
	p.clock.Floor(phys)
	p.hand.floor(phys)
	p.same("Floor")
}

// P8.1: New: each number at its limits and one past them, one and more of them wrong;
// no clock beside an error.
func TestNew(t *testing.T) {
	for _, replica := range replicas {
		for _, most := range mosts {
			for _, drift := range drifts {
				right := uint64(replica) < 64 && uint64(most) < 1<<16 && uint64(drift) < 1<<48
				c, errno := hlc.New(replica, most, drift)
				switch {
				case !right && (c != nil || errno != api.ErrRange):
					t.Errorf("New(%d, %d, %d): %v, %d", replica, most, drift, c, errno)
				case right && (c == nil || errno != api.OK):
					t.Errorf("New(%d, %d, %d): %v, %d", replica, most, drift, c, errno)
				case right && c.Last() != at(0, 0, replica):
					t.Errorf("Last of New(%d, %d, %d): %v", replica, most, drift, c.Last())
				}
			}
		}
	}
}

// P8.1: Last: with its own Replica behind whatever was told, each of the 64.
func TestLast(t *testing.T) {
	for replica := range api.MaxReplicas {
		p := both(t, replica, 3, 100)
		other := (replica + 17) % api.MaxReplicas
		for _, x := range []struct {
			call string
			do   func()
			want api.Stamp
		}{
			{"New", func() {}, at(0, 0, replica)},
			{"Next", func() { p.next(5) }, at(5, 0, replica)},
			{"Witness", func() { p.witness(50, at(60, 2, other)) }, at(60, 2, replica)},
			{"Witness of a Logic above", func() { p.witness(50, at(60, 3, other)) }, at(60, 3, replica)},
			{"Witness of the same", func() { p.witness(50, at(60, 3, other)) }, at(60, 3, replica)},
			{"Witness of what is below", func() { p.witness(50, at(59, 9, other)) }, at(60, 3, replica)},
			{"Floor", func() { p.floor(70) }, at(70, 3, replica)},
			{"Floor of what is below", func() { p.floor(69) }, at(70, 3, replica)},
			{"Next", func() { p.next(0) }, at(71, 0, replica)},
			{"Peek", func() { p.clock.Peek(90) }, at(71, 0, replica)},
			{"Check", func() { p.clock.Check(90, at(90, 0, other)) }, at(71, 0, replica)},
		} {
			x.do()
			if s := p.clock.Last(); s != x.want {
				t.Errorf("Last behind %s: %v, not %v", x.call, s, x.want)
			}
		}
	}
}

// step: what Next answers of now.
type step struct {
	now   int64
	want  api.Stamp
	errno api.Errno
}

func (p *pair) steps(l ...step) {
	p.t.Helper()
	for _, x := range l {
		if s, e := p.next(x.now); s != x.want || e != x.errno {
			p.t.Errorf("Next(%d): %v, %d, not %v, %d", x.now, s, e, x.want, x.errno)
		}
	}
}

// P8.2: Peek and Next: a now below, at and above Last's Phys, a Logic below and at
// most, and a now beyond its range.
func TestNext(t *testing.T) {
	both(t, 3, 9, 0).steps(step{5, at(5, 0, 3), 0}, step{5, at(5, 1, 3), 0})
	both(t, 3, 2, 10).steps(
		step{0, at(0, 1, 3), 0}, // at Last's Phys from the beginning on
		step{1, at(1, 0, 3), 0},
		step{5, at(5, 0, 3), 0},
		step{4, at(5, 1, 3), 0},
		step{5, at(5, 2, 3), 0},
		step{5, at(6, 0, 3), 0}, // Logic was most
		step{5, at(6, 1, 3), 0}, // below Last's Phys
		step{6, at(6, 2, 3), 0},
		step{7, at(7, 0, 3), 0}, // above it, with most as Logic
		step{6, at(7, 1, 3), 0},
		step{8, at(8, 0, 3), 0}, // above it, with a Logic below most
		step{api.MaxPhys, at(api.MaxPhys, 0, 3), 0},
		step{api.MaxPhys, at(api.MaxPhys, 1, 3), 0},
	)
	// With a most of 0 each stamp has a Phys of its own.
	both(t, 0, 0, 5).steps(step{0, at(1, 0, 0), 0}, step{0, at(2, 0, 0), 0}, step{0, at(3, 0, 0), 0}, step{3, at(4, 0, 0), 0}, step{5, at(5, 0, 0), 0})
	both(t, 1, 1, api.MaxPhys).steps(
		step{-1, api.Stamp{}, api.ErrRange},
		step{api.MaxPhys + 1, api.Stamp{}, api.ErrRange},
		step{math.MinInt64, api.Stamp{}, api.ErrRange},
		step{math.MaxInt64, api.Stamp{}, api.ErrRange},
		step{0, at(0, 1, 1), 0},
		step{-1, api.Stamp{}, api.ErrRange},
		step{0, at(1, 0, 1), 0},
	)
	// A Logic above most was made by another replica.
	from(t, 7, 2, 5, at(10, 900, 1)).steps(step{10, at(11, 0, 7), 0})
	from(t, 7, 2, 5, at(10, 900, 1)).steps(step{9, at(11, 0, 7), 0})
	from(t, 7, 2, 5, at(10, 900, 1)).steps(step{11, at(11, 0, 7), 0})
	from(t, 7, 2, 5, at(10, 900, 1)).steps(step{12, at(12, 0, 7), 0})
}

// P8.2: a Logic as great as there is: each of the 65,536, then the next Phys.
func TestLongLogic(t *testing.T) {
	p := both(t, 63, api.MaxLogic, 1)
	for logic := 1; logic <= api.MaxLogic; logic++ {
		if s, e := p.clock.Next(0); s != at(0, logic, 63) || e != api.OK {
			t.Fatalf("Next(0): %v, %d, not Logic %d", s, e, logic)
		}
	}
	p.hand.count = api.MaxLogic
	p.steps(step{0, at(1, 0, 63), 0}, step{0, at(1, 1, 63), 0})
}

// P8.2: at MaxPhys and a Logic at most, or above it, the clock can go no further,
// whatever now is.
func TestEnd(t *testing.T) {
	const end = api.MaxPhys
	for _, drift := range []int64{0, 1, end} {
		for _, most := range []int{0, 1, api.MaxLogic} {
			for _, logic := range []int{most, min(most+1, api.MaxLogic), api.MaxLogic} {
				p := from(t, 5, most, drift, at(end, logic, 63))
				p.steps(
					step{0, api.Stamp{}, api.ErrClock},
					step{end - 1, api.Stamp{}, api.ErrClock},
					step{end, api.Stamp{}, api.ErrClock},
					step{end + 1, api.Stamp{}, api.ErrRange},
					step{-1, api.Stamp{}, api.ErrRange},
				)
				if s := p.clock.Last(); s != at(end, logic, 5) {
					t.Errorf("Last at the end: %v", s)
				}
			}
		}
	}
	from(t, 5, 2, 0, at(end, 1, 63)).steps(step{end, at(end, 2, 5), 0}, step{end, api.Stamp{}, api.ErrClock})
	from(t, 5, 2, 1, at(end-1, 2, 63)).steps(step{end - 1, at(end, 0, 5), 0})
	// Ahead of the end the drift still tells.
	from(t, 5, 2, 0, at(end-1, 2, 63)).steps(step{end - 1, api.Stamp{}, api.ErrDrift}, step{end, at(end, 0, 5), 0})
}

// P8.2: the next stamp just at now and drift together, and just above.
func TestNextDrift(t *testing.T) {
	both(t, 1, 0, 0).steps(
		step{0, api.Stamp{}, api.ErrDrift}, // Logic is most from the beginning on
		step{1, at(1, 0, 1), 0},
		step{1, api.Stamp{}, api.ErrDrift},
		step{0, api.Stamp{}, api.ErrDrift},
		step{2, at(2, 0, 1), 0},
	)
	both(t, 1, 0, 2).steps(
		step{5, at(5, 0, 1), 0},
		step{5, at(6, 0, 1), 0},
		step{5, at(7, 0, 1), 0},
		step{5, api.Stamp{}, api.ErrDrift},
		step{6, at(8, 0, 1), 0},
		step{6, api.Stamp{}, api.ErrDrift},
	)
	// Where Logic has room, Last's own Phys may be too far ahead.
	p := from(t, 1, 9, 10, at(100, 0, 2))
	p.steps(step{89, api.Stamp{}, api.ErrDrift}, step{0, api.Stamp{}, api.ErrDrift}, step{90, at(100, 1, 1), 0}, step{89, api.Stamp{}, api.ErrDrift}, step{100, at(100, 2, 1), 0})
	// Of the greatest drift nothing is too far ahead.
	from(t, 1, 9, api.MaxPhys, at(api.MaxPhys, 0, 2)).steps(step{0, at(api.MaxPhys, 1, 1), 0}, step{api.MaxPhys, at(api.MaxPhys, 2, 1), 0})
	from(t, 1, 9, api.MaxPhys-1, at(api.MaxPhys, 0, 2)).steps(step{0, api.Stamp{}, api.ErrDrift}, step{1, at(api.MaxPhys, 1, 1), 0})
}

// P8.3: Check and Witness: their errors, the one named first where several apply.
func TestCheck(t *testing.T) {
	for _, x := range []struct {
		now   int64
		s     api.Stamp
		errno api.Errno
	}{
		{100, at(0, 0, 0), 0}, {100, at(99, 7, 63), 0}, {100, at(110, 0, 9), 0}, {100, at(110, api.MaxLogic, 63), 0},
		{100, at(111, 0, 0), api.ErrDrift}, {100, at(api.MaxPhys, 0, 0), api.ErrDrift},
		{0, at(10, 3, 3), 0}, {0, at(11, 3, 3), api.ErrDrift},
		{api.MaxPhys, at(api.MaxPhys, api.MaxLogic, 63), 0}, {api.MaxPhys - 10, at(api.MaxPhys, 0, 0), 0}, {api.MaxPhys - 11, at(api.MaxPhys, 0, 0), api.ErrDrift},
		{-1, at(0, 0, 0), api.ErrRange}, {api.MaxPhys + 1, at(0, 0, 0), api.ErrRange}, {math.MinInt64, at(0, 0, 0), api.ErrRange}, {math.MaxInt64, at(0, 0, 0), api.ErrRange},
		{-1, at(0, 0, 64), api.ErrRange}, {-1, at(500, 0, 0), api.ErrRange}, {api.MaxPhys + 1, at(-1, -1, -1), api.ErrRange},
		{100, at(500, 0, 64), api.ErrForm}, {100, at(500, -1, 0), api.ErrForm}, {100, at(api.MaxPhys+1, 0, 0), api.ErrForm},
	} {
		p := both(t, 4, 5, 10)
		if e := p.witness(x.now, x.s); e != x.errno {
			t.Errorf("Witness(%d, %v): %d, not %d", x.now, x.s, e, x.errno)
		}
		want := at(0, 0, 4)
		if x.errno == api.OK {
			want = at(x.s.Phys, x.s.Logic, 4)
		}
		if s := p.clock.Last(); s != want {
			t.Errorf("Last behind Witness(%d, %v): %v, not %v", x.now, x.s, s, want)
		}
	}
	for _, s := range wrong {
		for _, now := range nows {
			want := api.ErrForm
			if now < 0 || now > api.MaxPhys {
				want = api.ErrRange
			}
			if e := both(t, 4, 5, api.MaxPhys).witness(now, s); e != want {
				t.Errorf("Witness(%d, %v): %d, not %d", now, s, e, want)
			}
		}
	}
	// Without a drift nothing ahead of now is taken; what is at now is.
	p := both(t, 4, 5, 0)
	for _, now := range []int64{0, 1, 99, api.MaxPhys - 1} {
		if e := p.witness(now, at(now+1, 0, 1)); e != api.ErrDrift {
			t.Errorf("Witness(%d) of one ahead: %d", now, e)
		}
		if e := p.witness(now, at(now, 3, 1)); e != api.OK || p.clock.Last() != at(now, 3, 4) {
			t.Errorf("Witness(%d) of now: %d, %v", now, e, p.clock.Last())
		}
	}
}

// P8.3: Witness: of stamps below, at and above Last, by Phys first; the Replica tells
// nothing.
func TestWitness(t *testing.T) {
	for _, replica := range []int{0, 4, 5, 6, 63} {
		for _, x := range []struct {
			phys  int64
			logic int
			taken bool
		}{
			{9, 0, false}, {9, 7, false}, {9, 8, false}, {9, api.MaxLogic, false},
			{10, 0, false}, {10, 6, false}, {10, 7, false}, {10, 8, true}, {10, api.MaxLogic, true},
			{11, 0, true}, {11, 6, true}, {11, 7, true}, {11, api.MaxLogic, true},
		} {
			for _, most := range []int{0, 7, 8, api.MaxLogic} {
				p := from(t, 5, most, 3, at(10, 7, 1))
				if e := p.witness(10, at(x.phys, x.logic, replica)); e != api.OK {
					t.Errorf("Witness of %d, %d: %d", x.phys, x.logic, e)
				}
				want := at(10, 7, 5)
				if x.taken {
					want = at(x.phys, x.logic, 5)
				}
				if s := p.clock.Last(); s != want {
					t.Errorf("Last behind Witness of %d, %d: %v, not %v", x.phys, x.logic, s, want)
				}
			}
		}
	}
}

// P8.3: Floor: of numbers beyond their range, and below, at and above Last's Phys, with
// a Logic below, at and above most.
func TestFloor(t *testing.T) {
	for _, x := range []struct {
		last api.Stamp
		phys int64
		want api.Stamp
	}{
		{at(0, 0, 2), 0, at(0, 4, 1)}, {at(0, 0, 2), -1, at(0, 4, 1)}, {at(0, 0, 2), math.MinInt64, at(0, 4, 1)},
		{at(0, 4, 2), -1, at(0, 4, 1)}, {at(0, 5, 2), -1, at(0, 5, 1)}, {at(0, 5, 2), 0, at(0, 5, 1)}, {at(1, 0, 2), -1, at(1, 0, 1)},
		{at(0, 0, 2), api.MaxPhys - 1, at(api.MaxPhys-1, 4, 1)}, {at(0, 0, 2), api.MaxPhys, at(api.MaxPhys, 4, 1)}, {at(0, 0, 2), api.MaxPhys + 1, at(api.MaxPhys, 4, 1)}, {at(0, 0, 2), math.MaxInt64, at(api.MaxPhys, 4, 1)},
		{at(api.MaxPhys, 3, 2), math.MaxInt64, at(api.MaxPhys, 4, 1)}, {at(api.MaxPhys, 4, 2), math.MaxInt64, at(api.MaxPhys, 4, 1)}, {at(api.MaxPhys, 5, 2), math.MaxInt64, at(api.MaxPhys, 5, 1)}, {at(api.MaxPhys, 5, 2), api.MaxPhys, at(api.MaxPhys, 5, 1)},
		{at(10, 0, 2), 9, at(10, 0, 1)}, {at(10, 4, 2), 9, at(10, 4, 1)}, {at(10, 9, 2), 9, at(10, 9, 1)},
		{at(10, 0, 2), 10, at(10, 4, 1)}, {at(10, 3, 2), 10, at(10, 4, 1)}, {at(10, 4, 2), 10, at(10, 4, 1)}, {at(10, 5, 2), 10, at(10, 5, 1)}, {at(10, api.MaxLogic, 2), 10, at(10, api.MaxLogic, 1)},
		{at(10, 0, 2), 11, at(11, 4, 1)}, {at(10, 4, 2), 11, at(11, 4, 1)}, {at(10, 9, 2), 11, at(11, 4, 1)},
	} {
		p := from(t, 1, 4, 0, x.last)
		for range 2 {
			p.floor(x.phys)
			if s := p.clock.Last(); s != x.want {
				t.Errorf("Last behind Floor(%d) of %v: %v, not %v", x.phys, x.last, s, x.want)
			}
		}
	}
	p := both(t, 1, 4, 1)
	p.floor(10)
	p.steps(step{9, api.Stamp{}, api.ErrDrift}, step{10, at(11, 0, 1), 0}, step{12, at(12, 0, 1), 0})
	p = both(t, 1, 0, 0)
	p.floor(api.MaxPhys)
	p.steps(step{api.MaxPhys, api.Stamp{}, api.ErrClock})
}

// P8.2, P8.3: each Last with each now, each stamp and each floor, for clocks of all kinds.
func TestAll(t *testing.T) {
	for _, most := range []int{0, 1, 2, api.MaxLogic} {
		for _, drift := range []int64{0, 1, 10, api.MaxPhys} {
			for _, last := range lasts {
				for _, now := range nows {
					from(t, 9, most, drift, last).next(now)
					from(t, 9, most, drift, last).floor(now)
					for _, s := range lasts {
						s.Replica = (most + s.Logic) % api.MaxReplicas
						p := from(t, 9, most, drift, last)
						p.witness(now, s)
						p.next(now)
					}
				}
			}
		}
	}
}

// Rule 4: a call that is refused changes nothing: what is made behind it is what would
// have been made without it.
func TestRefused(t *testing.T) {
	refused := func(c *hlc.Clock) {
		for _, now := range []int64{-1, api.MaxPhys + 1, math.MinInt64, math.MaxInt64, 0} {
			if s, e := c.Next(now); s != (api.Stamp{}) || e == api.OK {
				t.Errorf("Next(%d): %v, %d", now, s, e)
			}
			if e := c.Witness(now, at(5000, 0, 3)); e == api.OK {
				t.Errorf("Witness(%d): taken", now)
			}
		}
		for _, s := range wrong {
			if e := c.Witness(200, s); e != api.ErrForm {
				t.Errorf("Witness of %v: %d", s, e)
			}
		}
	}
	with, without := both(t, 8, 3, 20), both(t, 8, 3, 20)
	with.witness(100, at(110, 2, 9))
	without.witness(100, at(110, 2, 9))
	for now := int64(100); now < 130; now++ {
		refused(with.clock)
		with.same("what was refused")
		a, e := with.next(now)
		b, _ := without.next(now)
		if a != b || e != api.OK {
			t.Errorf("Next(%d) behind what was refused: %v, %d, not %v", now, a, e, b)
		}
	}
}

// Rule 8: two clocks have nothing in common.
func TestApart(t *testing.T) {
	p, q := both(t, 1, 2, 3), both(t, 1, 2, 3)
	p.next(50)
	p.floor(60)
	q.same("calls of another clock")
	q.steps(step{0, at(0, 1, 1), 0})
	p.steps(step{60, at(61, 0, 1), 0})
}

// P8.4: of many calls one behind another, each stamp that is made is above all that
// were made, or witnessed, ahead of it.
func TestAbove(t *testing.T) {
	for seed := range uint32(200) {
		b := sample.Bytes(4000, seed)
		p := both(t, int(seed)%api.MaxReplicas, int(seed)%5, int64(seed)%7*3)
		now, made := int64(1000), 0
		// Some of the clocks come to the end.
		if seed%10 == 9 {
			now = api.MaxPhys - 300
		}
		all := []api.Stamp{{}}
		for ; len(b) >= 4; b = b[4:] {
			now = min(now+int64(b[0]%9)-3, api.MaxPhys)
			s := at(now+int64(b[1]%32)-8, int(b[2]%9), int(b[3]%api.MaxReplicas))
			switch b[2] % 4 {
			case 0:
				if p.witness(now, s) == api.OK {
					all = append(all, s)
				}
			case 1:
				if b[3] < 16 {
					p.floor(s.Phys)
				}
			default:
				s, e := p.next(now)
				if e != api.OK {
					continue
				}
				if most := stamp.Max(all...); !stamp.Less(most, s) {
					t.Fatalf("seed %d: %v was made behind %v", seed, s, most)
				}
				if s.Logic > int(seed)%5 {
					t.Fatalf("seed %d: %v was made", seed, s)
				}
				all = append(all, s)
				made++
			}
		}
		if made < 50 {
			t.Errorf("seed %d: %d stamps only were made", seed, made)
		}
	}
}

// P8.4: clocks that tell one another: none makes a stamp that another one made, and
// what was told is below what is made behind it.
func TestTogether(t *testing.T) {
	const count = 5
	var clocks [count]*pair
	for i := range clocks {
		clocks[i] = both(t, i*15, i, 1<<20)
	}
	by := map[api.Stamp]int{}
	for i, x := range sample.Bytes(20000, 7) {
		p, q := clocks[int(x)%count], clocks[int(x>>4)%count]
		// Their nows go apart, by less than the drift.
		now := int64(i/50) + int64(x%count)*37
		s, e := p.next(now)
		if e != api.OK {
			t.Fatalf("Next(%d): %d", now, e)
		}
		if k, is := by[s]; is {
			t.Fatalf("%v was made by steps %d and %d", s, k, i)
		}
		by[s] = i
		if p == q || x%3 > 0 {
			continue
		}
		if e := q.witness(now, s); e != api.OK {
			t.Fatalf("Witness(%d, %v): %d", now, s, e)
		}
		if next, e := q.clock.Peek(now); e != api.OK || !stamp.Less(s, next) {
			t.Fatalf("Peek behind Witness of %v: %v, %d", s, next, e)
		}
	}
}

// P8.1: whatever numbers a clock is made with.
func FuzzNew(f *testing.F) {
	f.Add(0, 0, int64(0))
	f.Add(63, api.MaxLogic, int64(api.MaxPhys))
	f.Add(64, -1, int64(-1))
	f.Fuzz(func(t *testing.T, replica, most int, drift int64) {
		if uint64(replica) < 64 && uint64(most) < 1<<16 && uint64(drift) < 1<<48 {
			both(t, replica, most, drift)
			return
		}
		if c, errno := hlc.New(replica, most, drift); c != nil || errno != api.ErrRange {
			t.Errorf("New(%d, %d, %d): %v, %d", replica, most, drift, c, errno)
		}
	})
}

// P8.2, P8.3, P8.4: whatever calls, one behind another: as by another hand, and each
// stamp above all ahead of it.
func FuzzCalls(f *testing.F) {
	for seed := range uint32(20) {
		f.Add(uint8(seed), uint16(seed%4), int64(seed*10), sample.Bytes(int(seed)*20, seed))
	}
	f.Fuzz(func(t *testing.T, replica uint8, most uint16, drift int64, b []byte) {
		p := both(t, int(replica%64), int(most), drift&api.MaxPhys)
		greatest := api.Stamp{}
		for ; len(b) >= 20; b = b[20:] {
			kind, shift := b[0]%4, b[1]%64
			now := int64(binary.BigEndian.Uint64(b[2:]) >> shift)
			s := at(int64(binary.BigEndian.Uint64(b[8:])>>shift), int(binary.BigEndian.Uint16(b[16:]))+int(b[19]%2), int(b[18]%66))
			switch kind {
			case 0:
				p.floor(s.Phys)
			case 1:
				if p.witness(now, s) == api.OK {
					greatest = stamp.Max(greatest, s)
				}
			default:
				s, e := p.next(now)
				if e == api.OK && !stamp.Less(greatest, s) {
					t.Errorf("%v was made behind %v", s, greatest)
				}
				greatest = stamp.Max(greatest, s)
			}
		}
	})
}
