package hist_test

import (
	"math"
	"slices"
	"testing"

	"sherpa/api"
	"sherpa/hist"
)

// op is an operation, res a result: another one for each number, and, from 1 on, without a 0 in it.
func op(n int) api.Op   { return api.Op{Kind: n%5 + 1, Key: n} }
func res(n int) api.Res { return api.Res{Code: api.Errno(n%6 + 1), Ok: true, Val: n} }

// foreign is what is no thread.
var foreign = []int{math.MinInt, -8, -1, 8, 9, math.MaxInt}

// begins and ends are events.
func begins(thread int, op api.Op) hist.Event { return hist.Event{Thread: thread, Op: op} }
func ends(thread int, res api.Res) hist.Event {
	return hist.Event{Thread: thread, Ends: true, Res: res}
}

// do has a history tell an event.
func do(h *hist.Hist, x hist.Event) api.Errno {
	if x.Ends {
		return h.End(x.Thread, x.Res)
	}
	return h.Begin(x.Thread, x.Op)
}

// plain is a history of the plainest kind: events in a list, gone through from the first one on.
type plain []hist.Event

// pending is the event with which a thread's pending operation began, or -1.
func (p plain) pending(thread int) int {
	at := -1
	for i, x := range p {
		switch {
		case x.Thread == thread && x.Ends:
			at = -1
		case x.Thread == thread:
			at = i
		}
	}
	return at
}

// answer is what is answered to one more event, and the list with it, if it is taken.
func (p plain) answer(x hist.Event) (plain, api.Errno) {
	if x.Thread < 0 || x.Thread > 7 {
		return p, api.ErrRange
	}
	switch pending := p.pending(x.Thread) >= 0; {
	case x.Ends && !pending:
		return p, api.ErrNone
	case !x.Ends && pending:
		return p, api.ErrArg
	case x.Ends:
		return append(p, ends(x.Thread, x.Res)), api.OK
	}
	return append(p, begins(x.Thread, x.Op)), api.OK
}

// calls is each call of the list.
func (p plain) calls() []hist.Call {
	var l []hist.Call
	for i, x := range p {
		if x.Ends {
			continue
		}
		c := hist.Call{Span: hist.Span{Began: i, Ended: -1}, Id: len(l), Thread: x.Thread, Op: x.Op}
		for j, y := range p {
			if j > i && y.Ends && y.Thread == x.Thread {
				c.Ended, c.Res = j, y.Res
				break
			}
		}
		l = append(l, c)
	}
	return l
}

// check holds a history against the events that it is to have.
func check(t *testing.T, h *hist.Hist, want ...hist.Event) {
	t.Helper()
	if got := h.Events(); !slices.Equal(got, want) || h.Len() != len(want) {
		t.Fatalf("events %v, %d of them, want %v", got, h.Len(), want)
	}
	if got, calls := h.Calls(), plain(want).calls(); !slices.Equal(got, calls) {
		t.Fatalf("calls %v, want %v", got, calls)
	}
	for thread := range api.MaxThreads {
		if h.Pending(thread) != (plain(want).pending(thread) >= 0) {
			t.Fatalf("thread %d: pending %v behind %v", thread, h.Pending(thread), want)
		}
	}
	for _, thread := range foreign {
		if h.Pending(thread) {
			t.Fatalf("thread %d: pending", thread)
		}
	}
}

// long is many events, right and wrong, from a rule.
func long(seed int) []hist.Event {
	x := uint64(seed)
	var l []hist.Event
	for n := range 150 {
		x = x*6364136223846793005 + 1442695040888963407
		thread := int(x>>40%10) - 1
		if x>>33%2 == 0 {
			l = append(l, begins(thread, op(n+1)))
		} else {
			l = append(l, ends(thread, res(n+1)))
		}
	}
	return l
}

// right is those of many events that are taken, one behind the other.
func right(seed int) plain {
	var p plain
	for _, x := range long(seed) {
		p, _ = p.answer(x)
	}
	return p
}

// made is the history of events.
func made(t *testing.T, l ...hist.Event) *hist.Hist {
	t.Helper()
	h, e := hist.Of(l...)
	if h == nil || e != api.OK {
		t.Fatalf("Of(%v) = %v, %d", l, h, e)
	}
	return h
}

// P8.1: what hasn't ended is pending; before another one is what ended with a lesser event than began it.
func TestSpan(t *testing.T) {
	for _, c := range []struct {
		ended   int
		pending bool
	}{{0, false}, {1, false}, {math.MaxInt, false}, {-1, true}, {-2, true}, {math.MinInt, true}} {
		for _, began := range []int{-1, 0, 1, 5} {
			if s := (hist.Span{Began: began, Ended: c.ended}); s.Pending() != c.pending {
				t.Errorf("%v: pending %v", s, s.Pending())
			}
		}
	}
	for _, c := range []struct {
		a, b hist.Span
		want bool
	}{
		{hist.Span{Began: 0, Ended: 2}, hist.Span{Began: 3, Ended: 4}, true},
		{hist.Span{Began: 0, Ended: 2}, hist.Span{Began: 3, Ended: -1}, true},
		{hist.Span{Began: 0, Ended: 0}, hist.Span{Began: 1, Ended: 1}, true},
		{hist.Span{Began: 3, Ended: 4}, hist.Span{Began: 0, Ended: 2}, false},
		{hist.Span{Began: 0, Ended: 2}, hist.Span{Began: 2, Ended: 4}, false},
		{hist.Span{Began: 0, Ended: 2}, hist.Span{Began: 1, Ended: 3}, false},
		{hist.Span{Began: 1, Ended: 3}, hist.Span{Began: 0, Ended: 2}, false},
		{hist.Span{Began: 0, Ended: 3}, hist.Span{Began: 1, Ended: 2}, false},
		{hist.Span{Began: 0, Ended: 2}, hist.Span{Began: 0, Ended: 2}, false},
		{hist.Span{Began: 0, Ended: -1}, hist.Span{Began: 3, Ended: 4}, false},
		{hist.Span{Began: 0, Ended: -1}, hist.Span{Began: 3, Ended: -1}, false},
		{hist.Span{Began: 0, Ended: math.MinInt}, hist.Span{Began: 3, Ended: 4}, false},
		{hist.Span{Began: 0, Ended: math.MaxInt}, hist.Span{Began: math.MaxInt, Ended: -1}, false},
		{hist.Span{Began: 0, Ended: 0}, hist.Span{Began: -1, Ended: 5}, false},
		{hist.Span{}, hist.Span{}, false},
	} {
		if got := c.a.Before(c.b); got != c.want {
			t.Errorf("%v before %v: %v", c.a, c.b, got)
		}
	}
}

// P8.1: the chapter's example.
func TestExample(t *testing.T) {
	h := made(t, begins(0, op(1)), begins(1, op(2)), ends(0, res(3)))
	l := h.Calls()
	if len(l) != 2 || l[0].Span != (hist.Span{Began: 0, Ended: 2}) || l[1].Span != (hist.Span{Began: 1, Ended: -1}) {
		t.Fatal(l)
	}
	if l[0].Before(l[1].Span) || l[1].Before(l[0].Span) || l[0].Pending() || !l[1].Pending() {
		t.Error(l)
	}
}

// P8.1: a history that nobody put anything into has nothing, whoever made it.
func TestNoEvents(t *testing.T) {
	var own hist.Hist
	for _, h := range []*hist.Hist{hist.New(), &own, {}, made(t), hist.New().Copy(), own.Copy()} {
		check(t, h)
		for thread := range api.MaxThreads {
			if e := h.End(thread, res(1)); e != api.ErrNone {
				t.Errorf("thread %d: End = %d", thread, e)
			}
		}
		check(t, h)
		if e := h.Begin(7, op(1)); e != api.OK {
			t.Error(e)
		}
		check(t, h, begins(7, op(1)))
	}
	if a, b := hist.New(), hist.New(); a == b {
		t.Error("two are one")
	}
}

// P8.1: events, calls and what is pending, behind each one of many events, of all threads; what is refused changes nothing.
func TestPlainHistory(t *testing.T) {
	for seed := range 20 {
		h := hist.New()
		var p plain
		for _, x := range long(seed) {
			var want api.Errno
			p, want = p.answer(x)
			if e := do(h, x); e != want {
				t.Fatalf("seed %d, behind %v: %v is told %d, want %d", seed, p, x, e, want)
			}
			check(t, h, p...)
		}
	}
}

// P8.1: all threads have one pending at one time, and each ends with its own result, whoever is first.
func TestAllThreads(t *testing.T) {
	for _, pace := range []int{1, 3, 5, 7} {
		h := hist.New()
		var want []hist.Event
		for n := range 2 * api.MaxThreads {
			x := begins(n*pace%8, op(n+1))
			if n >= 8 {
				x = ends((n+pace)*3%8, res(n+1))
			}
			if e := do(h, x); e != api.OK {
				t.Fatalf("pace %d: %v is told %d", pace, x, e)
			}
			want = append(want, x)
			check(t, h, want...)
		}
		for id, c := range h.Calls() {
			if c.Id != id || c.Began != id || c.Thread != id*pace%8 || c.Op != op(id+1) || c.Pending() || c.Res != res(c.Ended+1) {
				t.Errorf("pace %d: call %d is %v", pace, id, c)
			}
		}
	}
}

// P8.1: where there is no such thread that is told, whatever else is wrong; nothing changes.
func TestForeignThreads(t *testing.T) {
	for _, l := range [][]hist.Event{nil, {begins(0, op(1)), begins(7, op(2)), ends(0, res(3))}} {
		h := made(t, l...)
		for _, thread := range foreign {
			if e := h.Begin(thread, op(1)); e != api.ErrRange {
				t.Errorf("Begin(%d) = %d", thread, e)
			}
			if e := h.End(thread, res(1)); e != api.ErrRange {
				t.Errorf("End(%d) = %d", thread, e)
			}
			check(t, h, l...)
		}
	}
}

// P8.1: a thread has one pending at most, and ends none that isn't; that of another thread is nothing to it.
func TestOnePending(t *testing.T) {
	h := hist.New()
	for _, c := range []struct {
		x    hist.Event
		want api.Errno
	}{
		{ends(3, res(1)), api.ErrNone},
		{begins(3, op(1)), api.OK},
		{begins(3, op(1)), api.ErrArg},
		{begins(3, op(2)), api.ErrArg},
		{ends(4, res(2)), api.ErrNone},
		{begins(4, op(3)), api.OK},
		{begins(4, api.Op{}), api.ErrArg},
		{ends(3, res(3)), api.OK},
		{ends(3, res(3)), api.ErrNone},
		{begins(3, op(1)), api.OK},
		{ends(4, api.Res{}), api.OK},
		{ends(4, api.Res{}), api.ErrNone},
		{ends(3, res(4)), api.OK},
	} {
		before := h.Events()
		if e := do(h, c.x); e != c.want {
			t.Errorf("%v is told %d, want %d", c.x, e, c.want)
		}
		if c.want == api.OK {
			before = append(before, c.x)
		}
		check(t, h, before...)
	}
}

// P8.1: any operation and any result is taken, and told as it was.
func TestAnyNumbers(t *testing.T) {
	far := []int{math.MinInt, -1, 0, 1, 5, 6, 1000, math.MaxInt}
	h := hist.New()
	var want []hist.Event
	for i, a := range far {
		for _, b := range far {
			one, two := begins(i, api.Op{Kind: a, Key: b}), ends(i, api.Res{Code: api.Errno(a), Ok: a > b, Val: b})
			if e, f := do(h, one), do(h, two); e != api.OK || f != api.OK {
				t.Fatalf("%v is told %d, %v is told %d", one, e, two, f)
			}
			want = append(want, one, two)
		}
	}
	check(t, h, want...)
}

// P8.1, rule 2: what was told is the asker's own: neither side sees what the other one does to it.
func TestToldIsNew(t *testing.T) {
	for seed := range 10 {
		p := right(seed)
		half := len(p) / 2
		h := made(t, p[:half]...)
		events, calls := h.Events(), h.Calls()
		_ = append(events[:1], hist.Event{Thread: 5}, hist.Event{Thread: 6})
		_ = append(calls[:1], hist.Call{Id: -5}, hist.Call{Id: -6})
		for i := range events {
			events[i] = hist.Event{Thread: -1}
		}
		for i := range calls {
			calls[i] = hist.Call{Span: hist.Span{Began: -9, Ended: 99}, Id: -1}
		}
		check(t, h, p[:half]...)
		events, calls = h.Events(), h.Calls()
		for _, x := range p[half:] {
			do(h, x)
		}
		if !slices.Equal(events, p[:half]) || !slices.Equal(calls, p[:half].calls()) {
			t.Fatalf("seed %d: told %v, %v, later", seed, events, calls)
		}
		check(t, h, p...)
	}
}

// P8.1: a copy is what it was copied from, and goes its own way, as does that.
func TestCopy(t *testing.T) {
	for seed := range 10 {
		p := right(seed)
		for n := 0; n <= len(p); n += 5 {
			h := made(t, p[:n]...)
			c := h.Copy()
			d := c.Copy()
			check(t, c, p[:n]...)
			own, other := slices.Clone(p[:n]), slices.Clone(p[:n])
			for i, x := range long(seed + 100) {
				if i%2 == 0 {
					own, _ = own.answer(x)
					do(h, x)
				} else {
					other, _ = other.answer(x)
					do(c, x)
				}
			}
			check(t, h, own...)
			check(t, c, other...)
			check(t, d, p[:n]...)
		}
	}
}

// P8.1: events make the history that was told in them, and are neither changed nor kept.
func TestOf(t *testing.T) {
	for seed := range 20 {
		p := right(seed)
		for n := range len(p) {
			given := slices.Clone(p[:n])
			h := made(t, given...)
			check(t, h, p[:n]...)
			if !slices.Equal(given, p[:n]) {
				t.Fatalf("seed %d, %d: wrote into its events", seed, n)
			}
			for i := range given {
				given[i] = hist.Event{Thread: 7, Op: op(9), Res: res(9)}
			}
			check(t, h, p[:n]...)
			check(t, made(t, h.Events()...), p[:n]...)
		}
	}
}

// P8.1: of an event that ends its operation isn't looked at, of another one its result isn't.
func TestOfLooksAway(t *testing.T) {
	h := made(t,
		hist.Event{Thread: 2, Op: op(1), Res: res(2)},
		hist.Event{Thread: 5, Op: op(3), Res: res(4)},
		hist.Event{Thread: 2, Ends: true, Op: op(5), Res: res(6)})
	check(t, h, begins(2, op(1)), begins(5, op(3)), ends(2, res(6)))
}

// P8.1: of events that make none the first error is told, wherever it stands, and no history.
func TestOfRefuses(t *testing.T) {
	good := []hist.Event{begins(0, op(1)), begins(6, op(2)), ends(0, res(3)), begins(0, op(4))}
	bad := []struct {
		x    hist.Event
		want api.Errno
	}{
		{begins(6, op(2)), api.ErrArg}, {ends(3, res(3)), api.ErrNone}, {begins(8, op(1)), api.ErrRange},
		{ends(-1, res(1)), api.ErrRange}, {ends(math.MaxInt, res(1)), api.ErrRange}, {begins(math.MinInt, op(1)), api.ErrRange},
	}
	for _, first := range bad {
		for at := 2; at <= len(good); at++ {
			for _, second := range bad {
				l := append(slices.Insert(slices.Clone(good), at, first.x), second.x)
				if h, e := hist.Of(l...); h != nil || e != first.want {
					t.Errorf("Of(%v) = %v, %d, want %d", l, h, e, first.want)
				}
			}
		}
	}
}

// P8.1: nothing is kept from one history to the next one.
func TestHistoriesAreApart(t *testing.T) {
	a, b := hist.New(), hist.New()
	a.Begin(1, op(1))
	check(t, b)
	b.Begin(1, op(2))
	b.End(1, res(3))
	check(t, a, begins(1, op(1)))
	check(t, b, begins(1, op(2)), ends(1, res(3)))
}

// P8.1, DOC's limits of all of it: there may be very many events (were all gone through for each one more, this would be slow).
func TestManyEvents(t *testing.T) {
	const many = 300_000
	h := hist.New()
	for n := range many {
		thread := n % 8
		if e := h.Begin(thread, op(n)); e != api.OK || !h.Pending(thread) {
			t.Fatal(n, e)
		}
		if e := h.Begin(thread, op(n)); e != api.ErrArg {
			t.Fatal(n, e)
		}
		if e := h.End(thread, res(n)); e != api.OK || h.Pending(thread) || h.Len() != 2*n+2 {
			t.Fatal(n, e)
		}
	}
	events, calls := h.Events(), h.Calls()
	if len(events) != 2*many || len(calls) != many {
		t.Fatal(len(events), len(calls))
	}
	for n, c := range calls {
		want := hist.Call{Span: hist.Span{Began: 2 * n, Ended: 2*n + 1}, Id: n, Thread: n % 8, Op: op(n), Res: res(n)}
		if c != want || events[2*n] != begins(n%8, op(n)) || events[2*n+1] != ends(n%8, res(n)) {
			t.Fatal(n, c, events[2*n], events[2*n+1])
		}
	}
}
