package lin_test

import (
	"math"
	"slices"
	"testing"

	"sherpa/api"
	"sherpa/hist"
	"sherpa/lin"
)

// Operations, in few letters.
func ins(key int) api.Op { return api.Op{Kind: api.Insert, Key: key} }
func del(key int) api.Op { return api.Op{Kind: api.Delete, Key: key} }
func has(key int) api.Op { return api.Op{Kind: api.Has, Key: key} }
func put(key int) api.Op { return api.Op{Kind: api.Put, Key: key} }
func take() api.Op       { return api.Op{Kind: api.Take} }

// yes and no are what is told without a value, val is what is told with one, full is a refusal.
var yes, no, full = api.Res{Ok: true}, api.Res{}, api.Res{Code: api.ErrFull}

func val(n int) api.Res { return api.Res{Ok: true, Val: n} }

// shapes is each shape; foreign is what is none.
var (
	shapes  = []int{api.List, api.Hash, api.Queue, api.Stack}
	foreign = []int{math.MinInt, -1, 0, 5, 6, 8, math.MaxInt}
)

// isSet tells whether a shape is one of a set.
func isSet(shape int) bool { return shape == api.List || shape == api.Hash }

// b and e are events, in few letters.
func b(thread int, op api.Op) hist.Event { return hist.Event{Thread: thread, Op: op} }
func e(thread int, res api.Res) hist.Event {
	return hist.Event{Thread: thread, Ends: true, Res: res}
}

// made is the history of events.
func made(t *testing.T, l ...hist.Event) *hist.Hist {
	t.Helper()
	h, e := hist.Of(l...)
	if h == nil || e != api.OK {
		t.Fatalf("Of(%v) = %v, %d", l, h, e)
	}
	return h
}

// chance is numbers from a rule.
type chance uint64

// below is a number from 0 up to below n.
func (c *chance) below(n int) int {
	*c = *c*6364136223846793005 + 1442695040888963407
	return int(uint64(*c) >> 33 % uint64(n))
}

// model is what a structure means, in the plainest way: its items, the first one first.
type model []int

// do does an operation, and is the model behind it.
func (m model) do(shape int, op api.Op) (model, api.Res) {
	at := slices.Index(m, op.Key)
	switch {
	case op.Kind == api.Insert && at < 0:
		m = append(slices.Clone(m), op.Key)
		slices.Sort(m)
		return m, yes
	case op.Kind == api.Delete && at >= 0:
		return slices.Concat(m[:at], m[at+1:]), yes
	case op.Kind == api.Has && at >= 0:
		return m, yes
	case op.Kind == api.Put && shape == api.Stack:
		return slices.Concat(model{op.Key}, m), yes
	case op.Kind == api.Put:
		return slices.Concat(m, model{op.Key}), yes
	case op.Kind == api.Take && len(m) > 0:
		return m[1:], val(m[0])
	}
	return m, no
}

// fits tells whether an operation is one of a shape.
func fits(shape int, op api.Op) bool {
	switch shape {
	case api.List, api.Hash:
		return (op.Kind == 1 || op.Kind == 2 || op.Kind == 3) && op.Key >= 0 && op.Key <= 999
	case api.Queue, api.Stack:
		return op.Kind == 4 && op.Key >= 0 && op.Key <= 999 || op.Kind == 5 && op.Key == 0
	}
	return false
}

// wrongOps is operations that aren't of a shape.
func wrongOps(shape int) []api.Op {
	if isSet(shape) {
		return []api.Op{put(1), take(), ins(-1), del(1000), {}, {Kind: 6}, {Kind: math.MinInt}}
	}
	return []api.Op{ins(1), del(1), has(1), put(-1), put(1000), {Kind: api.Take, Key: 1}, {Kind: api.Take, Key: -1}, {}, {Kind: 9}}
}

// plain is the items behind an order, if it is legal: the chapter's words, one by one.
func plain(shape int, calls []hist.Call, order []int) ([]int, bool) {
	stands := map[int]int{}
	for place, id := range order {
		if _, twice := stands[id]; twice || id < 0 || id >= len(calls) {
			return nil, false
		}
		stands[id] = place
	}
	for _, c := range calls {
		_, in := stands[c.Id]
		ended := c.Ended >= 0
		if in && !fits(shape, c.Op) || ended && in != (c.Res.Code == api.OK) {
			return nil, false
		}
	}
	for i, id := range order {
		for _, later := range order[i+1:] {
			if ended := calls[later].Ended; ended >= 0 && ended < calls[id].Began {
				return nil, false
			}
		}
	}
	var m model
	for _, id := range order {
		var res api.Res
		if m, res = m.do(shape, calls[id].Op); calls[id].Ended >= 0 && res != calls[id].Res {
			return nil, false
		}
	}
	return m, fits(shape, put(0)) || fits(shape, has(0))
}

// orders tells each list of some of n numbers, none twice, the least one first.
func orders(n int, tell func([]int) bool) {
	var l []int
	var from func() bool
	from = func() bool {
		if !tell(l) {
			return false
		}
		for id := range n {
			if slices.Contains(l, id) {
				continue
			}
			l = append(l, id)
			if !from() {
				return false
			}
			l = l[:len(l)-1]
		}
		return true
	}
	from()
}

// least is the least legal order, and whether there is one: all lists are tried.
func least(shape int, calls []hist.Call) (found []int, ok bool) {
	orders(len(calls), func(l []int) bool {
		if _, ok = plain(shape, calls, l); ok {
			found = slices.Clone(l)
		}
		return !ok
	})
	return found, ok
}

// someOp is an operation of a shape, with one of few keys.
func someOp(c *chance, shape, keys int) api.Op {
	if isSet(shape) {
		return api.Op{Kind: api.Insert + c.below(3), Key: c.below(keys)}
	}
	if c.below(5) < 3 {
		return put(c.below(keys))
	}
	return take()
}

// events is events of threads each of whose operations is done at one moment within its span (some are refused instead, with all that aren't of the shape), and ends, if wanted, at last.
func events(c *chance, shape, threads, calls, keys int, toEnd bool) []hist.Event {
	var l []hist.Event
	var m model
	state, ops, told := make([]int, threads), make([]api.Op, threads), make([]api.Res, threads)
	for begun := 0; begun < calls || toEnd && slices.Max(state) > 0; {
		thread := c.below(threads)
		switch state[thread] {
		case 0:
			if begun == calls {
				continue
			}
			if ops[thread] = someOp(c, shape, keys); c.below(8) == 0 {
				wrong := wrongOps(shape)
				ops[thread] = wrong[c.below(len(wrong))]
			}
			l = append(l, b(thread, ops[thread]))
			begun++
		case 1:
			if told[thread] = full; fits(shape, ops[thread]) && c.below(12) > 0 {
				m, told[thread] = m.do(shape, ops[thread])
			}
		case 2:
			l = append(l, e(thread, told[thread]))
		}
		state[thread] = (state[thread] + 1) % 3
	}
	return l
}

// spoil changes a few results, or operations, or neither.
func spoil(c *chance, l []hist.Event, keys int) {
	for range c.below(3) {
		x := &l[c.below(len(l))]
		switch {
		case !x.Ends && c.below(15) == 0:
			x.Op = []api.Op{ins(1), put(1), take(), put(1000), {Kind: 5, Key: 1}, {}, {Kind: 6}}[c.below(7)]
		case !x.Ends:
		case c.below(2) == 0:
			x.Res = []api.Res{yes, no, full, val(c.below(keys)), {Val: 1}, {Code: api.ErrArg, Ok: true}, val(-1), val(1000)}[c.below(8)]
		default:
			y := &l[c.below(len(l))]
			if y.Ends {
				x.Res, y.Res = y.Res, x.Res
			}
		}
	}
}

// some is a history of at most so many calls, and a shape.
func some(t *testing.T, seed, calls int) (int, *hist.Hist) {
	c := chance(seed)
	c.below(2)
	shape, keys := shapes[c.below(4)], 1+c.below(4)
	l := events(&c, shape, 1+c.below(8), 1+c.below(calls), keys, c.below(3) > 0)
	spoil(&c, l, keys)
	return shape, made(t, l...)
}

// P9.1: what is legal, and what is there behind it: each list of numbers of small histories' calls, right and spoilt.
func TestLegal(t *testing.T) {
	legal := 0
	for seed := range 1500 {
		_, h := some(t, seed, 5)
		calls := h.Calls()
		for _, shape := range shapes {
			orders(len(calls), func(l []int) bool {
				want, ok := plain(shape, calls, l)
				items, got := lin.Behind(shape, h, l...)
				if got != ok || !slices.Equal(items, want) || lin.Legal(shape, h, l...) != ok {
					t.Fatalf("shape %d, %+v: %v is %v, with %v, want %v, %v", shape, calls, l, got, items, ok, want)
				}
				if ok {
					legal++
				}
				return true
			})
		}
	}
	if legal < 1000 {
		t.Error("too few are legal:", legal)
	}
}

// P9.1: the least legal order, or none, of small histories, right and spoilt.
func TestOrder(t *testing.T) {
	linear := 0
	for seed := range 4000 {
		own, h := some(t, seed+5000, 6)
		for _, shape := range shapes {
			if shape != own && seed%20 > 0 {
				continue
			}
			want, ok := least(shape, h.Calls())
			got, is, e := lin.Order(shape, h)
			if e != api.OK || is != ok || !slices.Equal(got, want) || lin.Linear(shape, h) != ok {
				t.Fatalf("shape %d, %+v: %v, %v, %d, want %v, %v", shape, h.Calls(), got, is, e, want, ok)
			}
			if ok {
				linear++
			}
		}
	}
	if linear < 1000 {
		t.Error("too few are linear:", linear)
	}
}

// P9.1: histories whose least legal order, or whose having none, can be told by hand.
func TestByHand(t *testing.T) {
	for i, c := range []struct {
		shape  int
		events []hist.Event
		want   []int
		ok     bool
	}{
		// the chapter's example
		{api.Queue, []hist.Event{b(0, put(1)), b(1, take()), e(1, val(1))}, []int{0, 1}, true},
		{api.Queue, []hist.Event{b(0, put(1)), b(1, take()), e(1, val(2))}, nil, false},
		// what is pending stands where it is needed, and only there
		{api.Queue, nil, nil, true},
		{api.List, []hist.Event{b(0, ins(1))}, nil, true},
		{api.List, []hist.Event{b(0, ins(1)), b(1, has(1)), e(1, yes)}, []int{0, 1}, true},
		{api.List, []hist.Event{b(0, ins(1)), b(1, has(1)), e(1, no)}, []int{1}, true},
		{api.Hash, []hist.Event{b(0, del(1)), b(1, ins(1)), e(1, yes)}, []int{0, 1}, true},
		{api.Hash, []hist.Event{b(0, ins(1)), b(2, del(1)), b(1, ins(1)), e(1, yes)}, []int{0, 1, 2}, true},
		{api.Stack, []hist.Event{b(0, take()), b(1, put(1)), e(1, yes), b(1, put(2)), e(1, yes), b(1, take()), e(1, val(1))}, []int{1, 2, 0, 3}, true},
		{api.Stack, []hist.Event{b(0, put(7)), b(1, take()), e(1, no)}, []int{1}, true},
		{api.Queue, []hist.Event{b(0, take()), b(1, put(3)), e(1, yes), b(1, take()), e(1, no)}, []int{1, 0, 2}, true},
		// what was refused stands nowhere
		{api.Queue, []hist.Event{b(0, put(1)), e(0, full), b(1, take()), e(1, no)}, []int{1}, true},
		{api.Queue, []hist.Event{b(0, put(1)), e(0, full), b(1, take()), e(1, val(1))}, nil, false},
		{api.Queue, []hist.Event{b(0, put(1)), e(0, api.Res{Code: -1})}, nil, true},
		// what came ahead stands ahead, what was at one time in any order
		{api.List, []hist.Event{b(0, ins(1)), b(1, ins(1)), e(0, no), e(1, yes)}, []int{1, 0}, true},
		{api.List, []hist.Event{b(0, ins(1)), e(0, no), b(1, ins(1)), e(1, yes)}, nil, false},
		{api.Queue, []hist.Event{b(0, take()), e(0, val(1)), b(1, put(1)), e(1, yes)}, nil, false},
		{api.Queue, []hist.Event{b(0, take()), b(1, put(1)), e(0, val(1)), e(1, yes)}, []int{1, 0}, true},
		{api.Queue, []hist.Event{b(0, put(1)), e(0, yes), b(0, put(2)), e(0, yes), b(0, take()), e(0, val(2))}, nil, false},
		{api.Stack, []hist.Event{b(0, put(1)), e(0, yes), b(0, put(2)), e(0, yes), b(0, take()), e(0, val(1))}, nil, false},
		{api.Stack, []hist.Event{b(0, put(1)), e(0, yes), b(0, take()), e(0, no)}, nil, false},
		// all of a result is told
		{api.List, []hist.Event{b(0, ins(1)), e(0, val(1))}, nil, false},
		{api.Queue, []hist.Event{b(0, put(1)), e(0, val(1))}, nil, false},
		{api.Queue, []hist.Event{b(0, put(1)), e(0, no)}, nil, false},
		{api.Stack, []hist.Event{b(0, take()), e(0, api.Res{Val: 1})}, nil, false},
		{api.Stack, []hist.Event{b(0, put(0)), b(1, take()), e(1, api.Res{Val: 1})}, nil, false},
		{api.Stack, []hist.Event{b(0, put(1)), b(1, take()), e(1, val(-1))}, nil, false},
	} {
		h := made(t, c.events...)
		if !c.ok {
			c.want = nil
		}
		got, ok, e := lin.Order(c.shape, h)
		if e != api.OK || ok != c.ok || !slices.Equal(got, c.want) || lin.Linear(c.shape, h) != c.ok {
			t.Errorf("%d: %v, %v, %d, want %v, %v", i, got, ok, e, c.want, c.ok)
		}
		if c.ok && !lin.Legal(c.shape, h, c.want...) {
			t.Errorf("%d: %v isn't legal", i, c.want)
		}
	}
}

// P9.1: numbers that are no call's, or stand twice.
func TestWrongNumbers(t *testing.T) {
	h := made(t, b(0, put(1)), e(0, yes), b(1, put(2)), e(1, full), b(2, put(3)))
	for _, l := range [][]int{{0}, {0, 2}} {
		if !lin.Legal(api.Queue, h, l...) {
			t.Errorf("%v isn't legal", l)
		}
		for at := range len(l) + 1 {
			for _, id := range []int{math.MinInt, -1, 0, 1, 3, 32, 64, 1 << 32, math.MaxInt} {
				wrong := slices.Insert(slices.Clone(l), at, id)
				if items, ok := lin.Behind(api.Queue, h, wrong...); ok || items != nil || lin.Legal(api.Queue, h, wrong...) {
					t.Errorf("%v is legal, with %v", wrong, items)
				}
			}
		}
	}
	if lin.Legal(api.Queue, h) || lin.Legal(api.Queue, h, 2) || lin.Legal(api.Queue, h, 2, 2) {
		t.Error("legal without call 0")
	}
}

// P9.1: a call whose operation isn't of the shape stands in no order. If it has to, nothing is legal; if not, it is asked nothing.
func TestForeignOperation(t *testing.T) {
	for _, shape := range shapes {
		for _, op := range wrongOps(shape) {
			for _, res := range []api.Res{yes, no, val(1)} {
				h := made(t, b(1, op), e(1, res))
				if lin.Legal(shape, h) || lin.Legal(shape, h, 0) {
					t.Errorf("shape %d: %v told %v is legal", shape, op, res)
				}
				if order, ok, e := lin.Order(shape, h); order != nil || ok || e != api.OK || lin.Linear(shape, h) {
					t.Errorf("shape %d: %v told %v: %v, %v, %d", shape, op, res, order, ok, e)
				}
			}
			for _, l := range [][]hist.Event{{b(1, op)}, {b(1, op), e(1, full)}, {b(1, op), e(1, api.Res{Code: -1, Ok: true})}} {
				leftOut(t, shape, l)
			}
		}
	}
}

// leftOut asks for a shape's orders of a call that may be left out, and isn't of the shape: alone, and beside others.
func leftOut(t *testing.T, shape int, l []hist.Event) {
	t.Helper()
	h := made(t, l...)
	items, legal := lin.Behind(shape, h)
	order, ok, e := lin.Order(shape, h)
	if len(items)+len(order) > 0 || !legal || !lin.Legal(shape, h) || !ok || e != api.OK || !lin.Linear(shape, h) {
		t.Errorf("shape %d, %v: %v, %v; %v, %v, %d", shape, l, items, legal, order, ok, e)
	}
	op := put(2)
	if isSet(shape) {
		op = ins(2)
	}
	for own := range 2 {
		h := made(t, slices.Insert(slices.Clone(l), own, b(3, op), hist.Event{Thread: 3, Ends: true, Res: yes})...)
		if order, ok, e := lin.Order(shape, h); !slices.Equal(order, []int{own}) || !ok || e != api.OK {
			t.Errorf("shape %d, %v: %v, %v, %d", shape, h.Events(), order, ok, e)
		}
		if items, ok := lin.Behind(shape, h, own); !slices.Equal(items, []int{2}) || !ok {
			t.Errorf("shape %d, %v: %v, %v", shape, h.Events(), items, ok)
		}
		for _, order := range [][]int{nil, {1 - own}, {0, 1}, {1, 0}} {
			if items, ok := lin.Behind(shape, h, order...); items != nil || ok || lin.Legal(shape, h, order...) {
				t.Errorf("shape %d, %v: %v: %v, %v", shape, h.Events(), order, items, ok)
			}
		}
	}
}

// P9.1: a call whose operation isn't of the shape is no help to another one.
func TestForeignHelp(t *testing.T) {
	for i, c := range []struct {
		shape int
		wrong api.Op // pending all the time
		right api.Op // would help in its place, if there is one that would
		then  []hist.Event
	}{
		{api.Queue, put(1000), api.Op{}, []hist.Event{b(1, take()), e(1, val(1000))}},
		{api.Stack, put(-1), api.Op{}, []hist.Event{b(1, take()), e(1, val(-1))}},
		{api.Queue, ins(7), put(7), []hist.Event{b(1, take()), e(1, val(7))}},
		{api.Stack, api.Op{Kind: 9, Key: 7}, put(7), []hist.Event{b(1, take()), e(1, val(7))}},
		{api.Queue, api.Op{Kind: api.Take, Key: 3}, take(), []hist.Event{b(1, put(3)), e(1, yes), b(1, take()), e(1, no)}},
		{api.Stack, api.Op{Kind: api.Take, Key: 2}, take(), []hist.Event{b(1, put(1)), e(1, yes), b(1, put(2)), e(1, yes), b(1, take()), e(1, val(1))}},
		{api.List, put(7), ins(7), []hist.Event{b(1, has(7)), e(1, yes)}},
		{api.List, ins(1000), api.Op{}, []hist.Event{b(1, has(1000)), e(1, yes)}},
		{api.Hash, api.Op{Kind: api.Take, Key: 7}, del(7), []hist.Event{b(1, ins(7)), e(1, yes), b(1, has(7)), e(1, no)}},
	} {
		h := made(t, slices.Concat([]hist.Event{b(0, c.wrong)}, c.then)...)
		if order, ok, e := lin.Order(c.shape, h); order != nil || ok || e != api.OK || lin.Linear(c.shape, h) {
			t.Errorf("%d: %v, %v, %d", i, order, ok, e)
		}
		if !isSet(c.shape) && lin.Hopes(c.shape, h) {
			t.Errorf("%d: help is hoped for", i)
		}
		h = made(t, slices.Concat([]hist.Event{b(0, c.right)}, c.then)...)
		if helps := c.right != (api.Op{}); lin.Linear(c.shape, h) != helps {
			t.Errorf("%d: that %v helps is %v", i, c.right, !helps)
		}
	}
}

// P9.1: without such a shape, or such a history, nothing is legal, and that is told ahead of a length.
func TestNoShape(t *testing.T) {
	var own hist.Hist
	long := hist.New()
	for n := range api.MaxCalls + 1 {
		long.Begin(0, put(n))
		long.End(0, yes)
	}
	refused := func(shape int, h *hist.Hist) {
		t.Helper()
		order, ok, e := lin.Order(shape, h)
		if order != nil || ok || e != api.ErrArg || lin.Linear(shape, h) || lin.Legal(shape, h) || lin.Legal(shape, h, 0) {
			t.Errorf("shape %d: %v, %v, %d", shape, order, ok, e)
		}
		if items, ok := lin.Behind(shape, h); items != nil || ok {
			t.Errorf("shape %d: %v, %v", shape, items, ok)
		}
	}
	for _, shape := range foreign {
		for _, h := range []*hist.Hist{nil, &own, hist.New(), long, made(t, b(0, put(1))), made(t, b(0, put(1)), e(0, yes))} {
			refused(shape, h)
		}
	}
	for _, shape := range shapes {
		refused(shape, nil)
		for _, h := range []*hist.Hist{&own, hist.New()} {
			order, ok, e := lin.Order(shape, h)
			if items, legal := lin.Behind(shape, h); len(order)+len(items) > 0 || !ok || e != api.OK || !legal || !lin.Linear(shape, h) {
				t.Errorf("shape %d, no events: %v, %v, %d; %v, %v", shape, order, ok, e, items, legal)
			}
		}
	}
}

// P9.1: of more calls than MaxCalls, ended or not, no order is looked for; whether one is legal is told all the same.
func TestManyCalls(t *testing.T) {
	h := hist.New()
	var order, items []int
	for n := range 3000 {
		switch _, ok, e := lin.Order(api.Queue, h); {
		case n <= api.MaxCalls && (!ok || e != api.OK || !lin.Linear(api.Queue, h)):
			t.Fatal(n, ok, e)
		case n > api.MaxCalls && (ok || e != api.ErrLong || lin.Linear(api.Queue, h)):
			t.Fatal(n, ok, e)
		}
		if _, _, e := lin.Order(api.List, h); n > api.MaxCalls && e != api.ErrLong {
			t.Fatal(n, e)
		}
		h.Begin(0, put(n%1000))
		order, items = append(order, n), append(items, n%1000)
		if n == 2000 {
			h.Begin(1, put(5))
			order, items = append(order, n+1), append(items, 5)
			break
		}
		h.End(0, yes)
	}
	if got, ok := lin.Behind(api.Queue, h, order...); !ok || !slices.Equal(got, items) {
		t.Error(got, ok)
	}
	// what is begun then, and is none of the shape, changes nothing while it is left out
	h.Begin(2, put(1000))
	if got, ok := lin.Behind(api.Queue, h, order...); !ok || !slices.Equal(got, items) || lin.Legal(api.Queue, h, append(order, len(order))...) {
		t.Error(got, ok)
	}
	order[7], order[8] = 8, 7
	if lin.Legal(api.Queue, h, order...) {
		t.Error("legal")
	}
}

// P9.1: calls that can stand in no order count as all others do.
func TestManyForeignCalls(t *testing.T) {
	for _, shape := range shapes {
		h := hist.New()
		for n := range api.MaxCalls + 2 {
			order, ok, e := lin.Order(shape, h)
			if n > api.MaxCalls != (e == api.ErrLong) || ok != (e == api.OK) || order != nil || lin.Linear(shape, h) != ok || !lin.Legal(shape, h) {
				t.Errorf("shape %d, %d calls: %v, %v, %d", shape, n, order, ok, e)
			}
			h.Begin(0, api.Op{Kind: 9})
			h.End(0, full)
		}
	}
}

// P9.1: histories as long as they may be, of all threads, that are linear: an order is told, it is legal, and no lesser one begins as it does.
func TestLong(t *testing.T) {
	for seed := range 300 {
		c := chance(seed)
		c.below(2)
		shape, keys := shapes[seed%4], []int{1, 2, 3, 5, 900}[c.below(5)]
		h := made(t, events(&c, shape, 8, api.MaxCalls, keys, c.below(2) == 0)...)
		order, ok, e := lin.Order(shape, h)
		if !ok || e != api.OK || !lin.Legal(shape, h, order...) {
			t.Fatalf("seed %d: %+v: %v, %v, %d", seed, h.Calls(), order, ok, e)
		}
		if len(order) > 0 && lin.Legal(shape, h, order[:len(order)-1]...) {
			t.Fatalf("seed %d: %v isn't the least", seed, order)
		}
	}
}

// begins tells whether a list can be a legal order's beginning, as far as the calls in it tell.
func begins(shape int, calls []hist.Call, l []int) bool {
	if len(l) == 0 {
		return true
	}
	last := calls[l[len(l)-1]]
	if !fits(shape, last.Op) {
		return false
	}
	for _, c := range calls {
		if c.Ended >= 0 && c.Ended < last.Began && c.Res.Code == api.OK && !slices.Contains(l, c.Id) {
			return false
		}
	}
	var m model
	var res api.Res
	for _, id := range l {
		m, res = m.do(shape, calls[id].Op)
	}
	return (last.Ended < 0 || res == last.Res) && begins(shape, calls, l[:len(l)-1])
}

// P9.1: what is hoped of a beginning holds, of a Queue and a Stack: so nothing is tried in vain, however many calls there are.
func TestHopes(t *testing.T) {
	count := map[bool]int{}
	for seed := range 20000 {
		shape, h := some(t, seed+20000, 5)
		calls := h.Calls()
		if isSet(shape) || slices.ContainsFunc(calls, func(c hist.Call) bool {
			return c.Ended >= 0 && c.Res.Code == api.OK && (!fits(shape, c.Op) || c.Op.Kind == api.Put && c.Res != yes)
		}) {
			continue
		}
		leads := map[[5]int]bool{}
		key := func(l []int) (k [5]int) {
			for i, id := range l {
				k[i] = id + 1
			}
			return k
		}
		orders(len(calls), func(l []int) bool {
			if _, ok := plain(shape, calls, l); ok {
				for n := range len(l) + 1 {
					leads[key(l[:n])] = true
				}
			}
			return true
		})
		orders(len(calls), func(l []int) bool {
			if begins(shape, calls, l) {
				want := leads[key(l)]
				count[want]++
				if got := lin.Hopes(shape, h, l...); got != want {
					t.Fatalf("shape %d, %+v: hope behind %v is %v", shape, calls, l, got)
				}
			}
			return true
		})
	}
	if count[true] < 1000 || count[false] < 1000 {
		t.Error(count)
	}
}

// crowd is the events of a Queue's or a Stack's Puts of 0 to 20 by seven threads, each of which begins again as soon as it has ended, while thread 7's Takes are told what is wanted: the first one is at the same time as all Puts, the others are behind them.
func crowd(told ...api.Res) []hist.Event {
	var l []hist.Event
	l = append(l, b(7, take()))
	for n := range 28 {
		if n >= 7 {
			l = append(l, e(n%7, yes))
		}
		if n < 21 {
			l = append(l, b(n%7, put(n)))
		}
	}
	for i, res := range told {
		if i > 0 {
			l = append(l, b(7, take()))
		}
		l = append(l, e(7, res))
	}
	return l
}

// P9.1: it is told soon that there is no order, even if there are ever so many orders of the Puts alone.
func TestCrowd(t *testing.T) {
	for i, c := range []struct {
		shape int
		told  []api.Res
		ok    bool
	}{
		{api.Queue, []api.Res{val(6), val(5), val(0)}, true},
		{api.Queue, []api.Res{val(6), val(5), val(12)}, false}, // 12 was put behind 0
		{api.Queue, []api.Res{no, val(6), val(0)}, true},
		{api.Queue, []api.Res{val(0), val(7), val(14)}, false}, // 14 was put behind 1
		{api.Queue, []api.Res{val(6), val(5), no}, false},
		{api.Queue, []api.Res{val(6), val(6), val(5)}, false},
		{api.Queue, []api.Res{val(6), val(5), val(21)}, false},
		{api.Stack, []api.Res{val(0), val(14), val(15)}, true},
		{api.Stack, []api.Res{no, val(20), val(19)}, true},
		{api.Stack, []api.Res{val(20), val(13), val(12)}, false}, // 12 was put ahead of 19
		{api.Stack, []api.Res{val(0), val(13), no}, false},
		{api.Stack, []api.Res{val(0), val(14), val(14)}, false},
		{api.Stack, []api.Res{val(0), val(6), val(14)}, false},
	} {
		h := made(t, crowd(c.told...)...)
		order, ok, e := lin.Order(c.shape, h)
		if ok != c.ok || e != api.OK || ok != lin.Legal(c.shape, h, order...) {
			t.Errorf("%d: %v, %v, %d", i, order, ok, e)
		}
		l := h.Events()
		last := slices.IndexFunc(l, func(x hist.Event) bool { return x.Op == put(20) })
		for n := range l {
			if n > last && l[n].Ends && l[n].Thread == l[last].Thread {
				l[n].Res = no
			}
		}
		if order, ok, e := lin.Order(c.shape, made(t, l...)); order != nil || ok || e != api.OK {
			t.Errorf("%d, with a Put that did nothing: %v, %v, %d", i, order, ok, e)
		}
	}
}

// P9.1, rules 1 and 2: nothing is written into what is handed in, and what is told is nobody else's.
func TestSharesNothing(t *testing.T) {
	h := made(t, b(0, put(1)), b(1, put(2)), e(0, yes), e(1, yes), b(2, take()), e(2, val(2)), b(3, put(4)))
	before := h.Events()
	order := []int{1, 0, 2, 3, 77, 78}
	items, ok := lin.Behind(api.Queue, h, order[:4]...)
	if !ok || !slices.Equal(items, []int{1, 4}) || !lin.Legal(api.Queue, h, order[:3]...) || lin.Legal(api.Queue, h, order[1:3]...) {
		t.Error(items, ok)
	}
	found, _, _ := lin.Order(api.Queue, h)
	items[0], items[1], found[0], found[1], found[2] = 9, 9, 9, 9, 9
	if again, ok, e := lin.Order(api.Queue, h); !ok || e != api.OK || !slices.Equal(again, []int{1, 0, 2}) {
		t.Error(again, ok, e)
	}
	if again, ok := lin.Behind(api.Queue, h, order[:4]...); !ok || !slices.Equal(again, []int{1, 4}) {
		t.Error(again, ok)
	}
	if !slices.Equal(order, []int{1, 0, 2, 3, 77, 78}) || !slices.Equal(h.Events(), before) {
		t.Error(order, h.Events())
	}
}
