package desc_test

import (
	"math"
	"slices"
	"testing"

	"sherpa/api"
	"sherpa/desc"
)

// edges is descriptors with each number at its ends, and in between.
func edges() []desc.Desc {
	var l []desc.Desc
	for _, att := range []int{0, 1, 2048, 4095} {
		for _, addr := range []int{0, 1, 256, 511} {
			for _, ver := range []int{0, 1, 131072, 262143} {
				for _, next := range []int{0, 1, 200, 511} {
					for _, mark := range []bool{false, true} {
						for status := range 8 {
							for _, val := range []int{0, 1, 999, 1023} {
								l = append(l, desc.Desc{Att: att, Addr: addr, Ver: ver, Next: next, Mark: mark, Status: status, Val: val})
							}
						}
					}
				}
			}
		}
	}
	return l
}

// odd is descriptors with numbers that don't fit.
func odd() []desc.Desc {
	return []desc.Desc{
		{Att: -1, Addr: -1, Ver: -1, Next: -1, Mark: true, Status: -1, Val: -1},
		{Att: 4096, Addr: 512, Ver: 262144, Next: 512, Status: 8, Val: 1024},
	}
}

// P2.1: the statuses are these numbers.
func TestStatuses(t *testing.T) {
	got := []int{desc.Idle, desc.Empty, desc.Proposed, desc.Won, desc.Lost, desc.Done}
	if !slices.Equal(got, []int{0, 1, 2, 3, 4, 5}) {
		t.Error(got)
	}
}

// P2.1: each number has its place.
func TestPutLaysNumbers(t *testing.T) {
	for _, c := range []struct {
		d    desc.Desc
		want uint64
	}{
		{desc.Desc{}, 0},
		{desc.Desc{Att: 1, Status: desc.Empty}, 1 + 1<<49},
		{desc.Desc{Att: 1}, 1},
		{desc.Desc{Att: 4095}, 1<<12 - 1},
		{desc.Desc{Addr: 1}, 1 << 12},
		{desc.Desc{Addr: 511}, 1<<21 - 1<<12},
		{desc.Desc{Ver: 1}, 1 << 21},
		{desc.Desc{Ver: 262143}, 1<<39 - 1<<21},
		{desc.Desc{Next: 1}, 1 << 39},
		{desc.Desc{Next: 511}, 1<<48 - 1<<39},
		{desc.Desc{Mark: true}, 1 << 48},
		{desc.Desc{Status: 1}, 1 << 49},
		{desc.Desc{Status: 7}, 1<<52 - 1<<49},
		{desc.Desc{Val: 1}, 1 << 52},
		{desc.Desc{Val: 1023}, 1<<62 - 1<<52},
		{desc.Desc{Att: 4095, Addr: 511, Ver: 262143, Next: 511, Mark: true, Status: 7, Val: 1023}, 1<<62 - 1},
	} {
		if x, e := desc.Put(c.d); x != c.want || e != api.OK {
			t.Errorf("Put(%+v) = %d, %d, want %d", c.d, x, e, c.want)
		}
		if d := desc.Get(c.want); d != c.d {
			t.Errorf("Get(%d) = %+v, want %+v", c.want, d, c.d)
		}
	}
}

// P2.1: what fits comes back, and unlike descriptors have unlike bits.
func TestPutKeepsDescriptorsApart(t *testing.T) {
	seen := map[uint64]desc.Desc{}
	for _, d := range edges() {
		x, e := desc.Put(d)
		if e != api.OK || desc.Get(x) != d {
			t.Fatalf("Put(%+v) = %d, %d; Get: %+v", d, x, e, desc.Get(x))
		}
		if other, ok := seen[x]; ok {
			t.Fatalf("%+v and %+v both have %d", d, other, x)
		}
		seen[x] = d
	}
}

// P2.1: a number that doesn't fit is refused, whichever it is.
func TestPutRefusesWhatDoesNotFit(t *testing.T) {
	for _, out := range []struct {
		most int
		make func(n int) desc.Desc
	}{
		{4095, func(n int) desc.Desc { return desc.Desc{Att: n} }},
		{511, func(n int) desc.Desc { return desc.Desc{Addr: n} }},
		{262143, func(n int) desc.Desc { return desc.Desc{Ver: n} }},
		{511, func(n int) desc.Desc { return desc.Desc{Next: n} }},
		{7, func(n int) desc.Desc { return desc.Desc{Status: n} }},
		{1023, func(n int) desc.Desc {
			return desc.Desc{Att: 7, Addr: 7, Ver: 7, Next: 7, Mark: true, Status: 7, Val: n}
		}},
	} {
		for _, n := range []int{out.most + 1, 2 * (out.most + 1), math.MaxInt, -1, -out.most - 1, math.MinInt} {
			if x, e := desc.Put(out.make(n)); x != 0 || e != api.ErrRange {
				t.Errorf("Put(%+v) = %d, %d, want 0, ErrRange", out.make(n), x, e)
			}
		}
		if _, e := desc.Put(out.make(out.most)); e != api.OK {
			t.Errorf("Put(%+v): %d", out.make(out.most), e)
		}
	}
}

// P2.1: bits beyond a descriptor's own are gone over.
func TestForeignBits(t *testing.T) {
	want := desc.Desc{Att: 4095, Addr: 1, Ver: 262143, Next: 2, Mark: true, Status: desc.Done, Val: 1023}
	x, _ := desc.Put(want)
	for _, foreign := range []uint64{1 << 62, 1 << 63, 3 << 62} {
		if d := desc.Get(x | foreign); d != want {
			t.Errorf("with %d: %+v, want %+v", foreign, d, want)
		}
	}
	all := desc.Desc{Att: 4095, Addr: 511, Ver: 262143, Next: 511, Mark: true, Status: 7, Val: 1023}
	if d := desc.Get(math.MaxUint64); d != all {
		t.Error(d)
	}
}

// P2.1: a descriptor is pending from Empty to Lost, and whatever status it is asked for, it has just its own.
func TestPendingAndIs(t *testing.T) {
	for status := -2; status < 10; status++ {
		d := desc.Desc{Att: 1, Addr: 2, Ver: 3, Next: 4, Mark: true, Status: status, Val: 5}
		if got := d.Pending(); got != (status >= 1 && status <= 4) {
			t.Errorf("status %d: pending: %v", status, got)
		}
		for asked := -2; asked < 10; asked++ {
			if got := d.Is(asked); got != (asked == status) {
				t.Errorf("status %d: Is(%d) = %v", status, asked, got)
			}
		}
		if d.Is() || d.Is([]int{}...) {
			t.Errorf("status %d is one of none", status)
		}
		if !d.Is(20, status, 21) || !d.Is(status, status) || d.Is(20, 21, status+1) {
			t.Errorf("status %d isn't found in a list", status)
		}
	}
}

// P2.1, rule 2: the list of statuses is only read.
func TestIsLeavesTheList(t *testing.T) {
	l := []int{desc.Done, desc.Idle, desc.Won}
	if !(desc.Desc{Status: desc.Won}).Is(l...) || !slices.Equal(l, []int{desc.Done, desc.Idle, desc.Won}) {
		t.Error(l)
	}
}

// P2.1: what is made of a descriptor has just what is said, and leaves it as it was.
func TestChanges(t *testing.T) {
	for _, d := range append(edges(), odd()...) {
		was := d
		att := was.Att + 1
		if was.Att == 4095 {
			att = 0
		}
		if got := d.Next1(); got != (desc.Desc{Att: att, Status: 1}) {
			t.Fatalf("%+v.Next1() = %+v", was, got)
		}
		for _, status := range []int{-1, 0, 3, 8} {
			want := desc.Desc{Att: was.Att, Addr: was.Addr, Ver: was.Ver, Next: was.Next, Mark: was.Mark, Status: status, Val: was.Val}
			if got := d.With(status); got != want {
				t.Fatalf("%+v.With(%d) = %+v", was, status, got)
			}
		}
		if got := d.Ended(api.Res{Ok: true, Val: 7}); got != (desc.Desc{Att: was.Att, Mark: true, Status: 5, Val: 7}) {
			t.Fatalf("%+v.Ended(true, 7) = %+v", was, got)
		}
		if d != was {
			t.Fatalf("%+v has become %+v", was, d)
		}
	}
}

// P2.1: attempts go round, and an end keeps the attempt.
func TestAttempts(t *testing.T) {
	d := desc.Desc{}
	for i := 1; i <= 4095; i++ {
		if d = d.Ended(api.Res{}).Next1(); d != (desc.Desc{Att: i, Status: desc.Empty}) {
			t.Fatalf("attempt %d: %+v", i, d)
		}
	}
	if d = d.Next1(); d != (desc.Desc{Status: desc.Empty}) {
		t.Error(d)
	}
}

// P2.1: an end has a next for ErrFull alone; mark and value are those of the result, whatever its code.
func TestEnded(t *testing.T) {
	for code := api.OK; code <= api.ErrLong; code++ {
		next := 0
		if code == api.ErrFull {
			next = 1
		}
		for _, ok := range []bool{false, true} {
			for _, val := range []int{-1, 0, 9, 1023, 1024} {
				r := api.Res{Code: code, Ok: ok, Val: val}
				d := desc.Desc{Att: 12, Addr: 3, Ver: 4, Next: 5, Mark: true, Status: desc.Won, Val: 6}
				if got := d.Ended(r); got != (desc.Desc{Att: 12, Next: next, Mark: ok, Status: desc.Done, Val: val}) {
					t.Errorf("Ended(%+v) = %+v", r, got)
				}
			}
		}
	}
}

// P2.1: what is told is told of an operation that has ended, and nothing beside an error.
func TestRes(t *testing.T) {
	for _, d := range append(edges(), odd()...) {
		want := api.Res{Code: api.OK, Ok: d.Mark, Val: d.Val}
		if d.Next == 1 {
			want = api.Res{Code: api.ErrFull}
		}
		if d.Status != 5 {
			want = api.Res{Code: api.ErrNone}
		}
		if got := d.Res(); got != want {
			t.Fatalf("%+v.Res() = %+v, want %+v", d, got, want)
		}
	}
}

// P2.1: a result goes through an end's bits and comes back.
func TestResultsComeBack(t *testing.T) {
	for _, r := range []api.Res{{}, {Ok: true}, {Ok: true, Val: 999}, {Val: 5}, {Code: api.ErrFull}} {
		x, e := desc.Put(desc.Desc{Att: 4095, Addr: 9, Next: 1, Status: desc.Empty}.Ended(r))
		if got := desc.Get(x).Res(); e != api.OK || got != r {
			t.Errorf("%+v: %d, %+v", r, e, got)
		}
	}
	full := desc.Desc{}.Ended(api.Res{Code: api.ErrFull, Ok: true, Val: 9})
	if got := full.Res(); got != (api.Res{Code: api.ErrFull}) {
		t.Error(got)
	}
}
