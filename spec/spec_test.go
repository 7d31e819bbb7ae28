package spec_test

import (
	"math"
	"slices"
	"testing"

	"sherpa/api"
	"sherpa/spec"
)

// Operations, in few letters.
func ins(key int) api.Op { return api.Op{Kind: api.Insert, Key: key} }
func del(key int) api.Op { return api.Op{Kind: api.Delete, Key: key} }
func has(key int) api.Op { return api.Op{Kind: api.Has, Key: key} }
func put(key int) api.Op { return api.Op{Kind: api.Put, Key: key} }
func take() api.Op       { return api.Op{Kind: api.Take} }

// yes and no are what is told without a value, val is what is told with one.
var yes, no = api.Res{Ok: true}, api.Res{}

func val(n int) api.Res { return api.Res{Ok: true, Val: n} }

// shapes is each shape; foreign is what is none.
var (
	shapes  = []int{api.List, api.Hash, api.Queue, api.Stack}
	foreign = []int{math.MinInt, -1, 0, 5, 6, 8, math.MaxInt}
)

// isSet tells whether a shape is one of a set.
func isSet(shape int) bool { return shape == api.List || shape == api.Hash }

// some is operations of a shape, which leave more than one item.
func some(shape int) []api.Op {
	if isSet(shape) {
		return []api.Op{ins(7), ins(2), ins(999), del(2), ins(0)}
	}
	return []api.Op{put(7), put(2), take(), put(999), put(7)}
}

// wrong is operations that aren't of a shape.
func wrong(shape int) []api.Op {
	l := []api.Op{{}, {Kind: -1}, {Kind: 6}, {Kind: 0, Key: 5}, {Kind: math.MaxInt}, {Kind: math.MinInt, Key: 1}}
	own, other := []int{api.Put}, []api.Op{ins(1), del(7), has(7), {Kind: api.Take, Key: 1}, {Kind: api.Take, Key: -1}}
	if isSet(shape) {
		own, other = []int{api.Insert, api.Delete, api.Has}, []api.Op{put(1), put(7), take()}
	}
	for _, kind := range own {
		for _, key := range []int{math.MinInt, -1, 1000, 1024, math.MaxInt} {
			l = append(l, api.Op{Kind: kind, Key: key})
		}
	}
	return append(l, other...)
}

// made is a meaning behind operations.
func made(t *testing.T, shape int, ops ...api.Op) *spec.Spec {
	t.Helper()
	_, s, e := spec.Play(shape, ops...)
	if s == nil || e != api.OK {
		t.Fatalf("Play(%d, %v) = %v, %d", shape, ops, s, e)
	}
	return s
}

// check holds a meaning's items against those that it is to have.
func check(t *testing.T, s *spec.Spec, want ...int) {
	t.Helper()
	if got := s.Items(); !slices.Equal(got, want) || s.Len() != len(want) {
		t.Errorf("shape %d: items %v, %d of them, want %v", s.Shape, got, s.Len(), want)
	}
	first, ok := s.First()
	if ok != (len(want) > 0) || !ok && first != 0 || ok && first != want[0] {
		t.Errorf("shape %d: first %d, %v, want that of %v", s.Shape, first, ok, want)
	}
}

// P7.1: of each shape there is a meaning, without items; of what is no shape there is none.
func TestNew(t *testing.T) {
	for _, shape := range shapes {
		s, e := spec.New(shape)
		if s == nil || e != api.OK || s.Shape != shape {
			t.Fatalf("New(%d) = %v, %d", shape, s, e)
		}
		check(t, s)
	}
	for _, shape := range foreign {
		if s, e := spec.New(shape); s != nil || e != api.ErrArg {
			t.Errorf("New(%d) = %v, %d", shape, s, e)
		}
	}
}

// P7.1: what is done, and told, one operation behind the other, and the items behind each.
func TestDo(t *testing.T) {
	type step struct {
		op    api.Op
		res   api.Res
		items []int
	}
	set := []step{
		{has(5), no, nil}, {del(5), no, nil},
		{ins(5), yes, []int{5}}, {ins(5), no, []int{5}},
		{ins(0), yes, []int{0, 5}}, {ins(999), yes, []int{0, 5, 999}}, {ins(7), yes, []int{0, 5, 7, 999}},
		{has(0), yes, []int{0, 5, 7, 999}}, {has(999), yes, []int{0, 5, 7, 999}}, {has(6), no, []int{0, 5, 7, 999}},
		{del(6), no, []int{0, 5, 7, 999}}, {del(5), yes, []int{0, 7, 999}}, {has(5), no, []int{0, 7, 999}},
		{del(5), no, []int{0, 7, 999}}, {del(999), yes, []int{0, 7}}, {del(0), yes, []int{7}},
		{ins(0), yes, []int{0, 7}}, {del(7), yes, []int{0}}, {del(0), yes, nil}, {has(0), no, nil},
	}
	steps := map[int][]step{
		api.List: set,
		api.Hash: set,
		api.Queue: {
			{take(), no, nil}, {put(4), yes, []int{4}}, {put(9), yes, []int{4, 9}}, {take(), val(4), []int{9}},
			{put(9), yes, []int{9, 9}}, {put(0), yes, []int{9, 9, 0}}, {take(), val(9), []int{9, 0}}, {take(), val(9), []int{0}},
			{take(), val(0), nil}, {take(), no, nil}, {put(999), yes, []int{999}}, {take(), val(999), nil},
		},
		api.Stack: {
			{take(), no, nil}, {put(4), yes, []int{4}}, {put(9), yes, []int{9, 4}}, {take(), val(9), []int{4}},
			{put(4), yes, []int{4, 4}}, {put(0), yes, []int{0, 4, 4}}, {take(), val(0), []int{4, 4}}, {take(), val(4), []int{4}},
			{take(), val(4), nil}, {take(), no, nil}, {put(999), yes, []int{999}}, {take(), val(999), nil},
		},
	}
	for _, shape := range shapes {
		s, _ := spec.New(shape)
		for i, c := range steps[shape] {
			if res, e := s.Do(c.op); res != c.res || e != api.OK {
				t.Errorf("shape %d, %d: Do(%v) = %v, %d, want %v", shape, i, c.op, res, e, c.res)
			}
			check(t, s, c.items...)
		}
	}
}

// plain is a meaning of the plainest kind: items in a list, gone through one by one.
type plain struct {
	shape int
	items []int
}

// do does an operation that is right.
func (p *plain) do(op api.Op) api.Res {
	var rest []int
	for _, x := range p.items {
		if x != op.Key {
			rest = append(rest, x)
		}
	}
	there := len(rest) < len(p.items)
	switch op.Kind {
	case api.Insert:
		p.items = append(rest, op.Key)
		slices.Sort(p.items)
		return api.Res{Ok: !there}
	case api.Delete:
		p.items = rest
		return api.Res{Ok: there}
	case api.Has:
		return api.Res{Ok: there}
	case api.Put:
		if p.shape == api.Queue {
			p.items = append(slices.Clone(p.items), op.Key)
		} else {
			p.items = append([]int{op.Key}, p.items...)
		}
		return yes
	}
	if len(p.items) == 0 {
		return no
	}
	first := p.items[0]
	p.items = p.items[1:]
	return val(first)
}

// long is many operations of a shape, from a rule: there are times at which it grows and others at which it shrinks.
func long(shape, seed int) []api.Op {
	x := uint64(seed)
	var l []api.Op
	for n := range 600 {
		x = x*6364136223846793005 + 1442695040888963407
		r, key := int(x>>40%10), int(x>>33%40)*999/39
		grows := r < 3+4*(n/100%2)
		switch {
		case isSet(shape) && r == 9:
			l = append(l, has(key))
		case isSet(shape) && grows:
			l = append(l, ins(key))
		case isSet(shape):
			l = append(l, del(key))
		case grows:
			l = append(l, put(key))
		default:
			l = append(l, take())
		}
	}
	return l
}

// P7.1: whatever is asked, what is told and what is left are those of the plainest meaning, at each moment.
func TestPlainMeaning(t *testing.T) {
	for _, shape := range shapes {
		for seed := range 20 {
			ops := long(shape, seed)
			s, _ := spec.New(shape)
			p := &plain{shape: shape}
			var told []api.Res
			for i, op := range ops {
				want := p.do(op)
				told = append(told, want)
				if res, e := s.Do(op); res != want || e != api.OK {
					t.Fatalf("shape %d, seed %d, %d: Do(%v) = %v, %d, want %v", shape, seed, i, op, res, e, want)
				}
				check(t, s, p.items...)
			}
			l, x, e := spec.Play(shape, ops...)
			if !slices.Equal(l, told) || e != api.OK || !s.Same(x) || !x.Same(s) {
				t.Fatalf("shape %d, seed %d: Play tells others, %d", shape, seed, e)
			}
			check(t, x, p.items...)
		}
	}
}

// P7.1: all keys fit in a set at one time, and it rises, in whatever order they come.
func TestAllKeys(t *testing.T) {
	var all []int
	for key := range api.MaxKey + 1 {
		all = append(all, key)
	}
	for _, shape := range []int{api.List, api.Hash} {
		for _, pace := range []int{1, 999, 7, 333} {
			s, _ := spec.New(shape)
			for n := range all {
				if res, e := s.Do(ins(n * pace % 1000)); res != yes || e != api.OK {
					t.Fatal(shape, pace, n, res, e)
				}
			}
			check(t, s, all...)
			for n := range all {
				if res, e := s.Do(del((n*pace + 500) % 1000)); res != yes || e != api.OK {
					t.Fatal(shape, pace, n, res, e)
				}
			}
			check(t, s)
		}
	}
}

// P7.1: what isn't of the shape is refused, and nothing changes.
func TestDoRefuses(t *testing.T) {
	for _, shape := range shapes {
		for _, ops := range [][]api.Op{nil, some(shape)} {
			s := made(t, shape, ops...)
			want := s.Items()
			for _, op := range wrong(shape) {
				if res, e := s.Do(op); res != no || e != api.ErrArg {
					t.Errorf("shape %d: Do(%v) = %v, %d", shape, op, res, e)
				}
				check(t, s, want...)
			}
		}
	}
	for _, shape := range foreign {
		s := &spec.Spec{Shape: shape}
		for _, op := range []api.Op{ins(1), del(1), has(1), put(1), take()} {
			if res, e := s.Do(op); res != no || e != api.ErrArg || s.Len() != 0 {
				t.Errorf("shape %d: Do(%v) = %v, %d", shape, op, res, e)
			}
		}
	}
}

// P7.1: a bag without items, whoever made it, has none to tell.
func TestEmptyBag(t *testing.T) {
	var b spec.Bag
	if first, ok := b.First(); b.Len() != 0 || len(b.Items()) != 0 || first != 0 || ok {
		t.Error(b.Len(), b.Items(), first, ok)
	}
}

// P7.1, rule 2: items that were told are the asker's own: neither side sees what the other one does to them.
func TestItemsAreNew(t *testing.T) {
	for _, shape := range shapes {
		s := made(t, shape, some(shape)...)
		want := s.Items()
		told := s.Items()
		for i := range told {
			told[i] = -5
		}
		_ = append(told[:1], -6, -7)
		check(t, s, want...)
		told = s.Items()
		for _, op := range long(shape, 3) {
			s.Do(op)
		}
		if !slices.Equal(told, want) {
			t.Errorf("shape %d: told %v, later %v", shape, want, told)
		}
	}
}

// P7.1: a copy is the same, and goes its own way, as does what it was copied from.
func TestCopy(t *testing.T) {
	for _, shape := range shapes {
		for n := range 40 {
			ops := long(shape, n)
			s := made(t, shape, ops[:n*7]...)
			want := s.Items()
			c := s.Copy()
			if c == s || c.Shape != shape || !c.Same(s) || !s.Same(c) {
				t.Fatalf("shape %d, %d: another copy", shape, n)
			}
			d := c.Copy()
			for i := range 60 {
				c.Do(ops[599-i])
			}
			check(t, s, want...)
			left := c.Items()
			for i := range 60 {
				s.Do(ops[400-i])
			}
			check(t, c, left...)
			check(t, d, want...)
		}
	}
}

// P7.1: two are one if shape and items are, however they came by them.
func TestSame(t *testing.T) {
	var l []*spec.Spec
	for _, shape := range shapes {
		l = append(l, made(t, shape))
		if isSet(shape) {
			l = append(l, made(t, shape, ins(1)), made(t, shape, ins(2)), made(t, shape, ins(1), ins(2)), made(t, shape, ins(2), ins(3)))
			continue
		}
		l = append(l, made(t, shape, put(1)), made(t, shape, put(2)), made(t, shape, put(1), put(2)), made(t, shape, put(2), put(1)), made(t, shape, put(1), put(1)))
	}
	for i, a := range l {
		for j, b := range l {
			if a.Same(b) != (i == j) {
				t.Errorf("%v and %v: Same is %v", a, b, a.Same(b))
			}
		}
		if a.Same(nil) {
			t.Errorf("%v is the same as nil", a)
		}
	}
	for _, c := range []struct{ a, b *spec.Spec }{
		{made(t, api.List, ins(2), ins(1)), made(t, api.List, ins(1), ins(3), ins(2), ins(2), del(3))},
		{made(t, api.Hash, ins(2), del(2)), made(t, api.Hash)},
		{made(t, api.Queue, put(1), put(2)), made(t, api.Queue, put(1), put(1), take(), put(2))},
		{made(t, api.Queue, put(1), take()), made(t, api.Queue)},
		{made(t, api.Stack, put(1), put(2)), made(t, api.Stack, put(3), take(), put(1), put(3), take(), put(2))},
		{made(t, api.Stack, put(1), take()), &spec.Spec{Shape: api.Stack}},
	} {
		if !c.a.Same(c.b) || !c.b.Same(c.a) {
			t.Errorf("%v and %v aren't the same", c.a, c.b)
		}
	}
}

// P7.1: what a new meaning tells, in order, and the meaning behind it.
func TestPlay(t *testing.T) {
	for _, c := range []struct {
		shape int
		ops   []api.Op
		told  []api.Res
		left  []int
	}{
		{api.Queue, []api.Op{put(4), put(9), take()}, []api.Res{yes, yes, val(4)}, []int{9}},
		{api.Stack, []api.Op{put(4), put(9), take()}, []api.Res{yes, yes, val(9)}, []int{4}},
		{api.Stack, []api.Op{take(), put(0), take(), take()}, []api.Res{no, yes, val(0), no}, nil},
		{api.List, []api.Op{ins(4), ins(4), has(4), del(3), ins(1)}, []api.Res{yes, no, yes, no, yes}, []int{1, 4}},
		{api.Hash, []api.Op{ins(8), ins(5), del(8), has(8)}, []api.Res{yes, yes, yes, no}, []int{5}},
		{api.List, nil, nil, nil}, {api.Hash, nil, nil, nil}, {api.Queue, nil, nil, nil}, {api.Stack, nil, nil, nil},
	} {
		asked := slices.Clone(c.ops)
		l, s, e := spec.Play(c.shape, c.ops...)
		if !slices.Equal(l, c.told) || s == nil || e != api.OK || s.Shape != c.shape {
			t.Fatalf("Play(%d, %v) = %v, %v, %d", c.shape, c.ops, l, s, e)
		}
		check(t, s, c.left...)
		if !slices.Equal(c.ops, asked) {
			t.Errorf("Play(%d, %v) wrote into its operations: %v", c.shape, asked, c.ops)
		}
	}
}

// P7.1: without such a shape, or with one operation that isn't of it, wherever it stands, there is nothing.
func TestPlayRefuses(t *testing.T) {
	for _, shape := range shapes {
		good := some(shape)
		for _, bad := range wrong(shape) {
			for at := range len(good) + 1 {
				ops := slices.Insert(slices.Clone(good), at, bad)
				if l, s, e := spec.Play(shape, ops...); l != nil || s != nil || e != api.ErrArg {
					t.Errorf("Play(%d, %v) = %v, %v, %d", shape, ops, l, s, e)
				}
			}
		}
	}
	for _, shape := range foreign {
		for _, ops := range [][]api.Op{nil, some(api.List), some(api.Queue), {{}}} {
			if l, s, e := spec.Play(shape, ops...); l != nil || s != nil || e != api.ErrArg {
				t.Errorf("Play(%d, %v) = %v, %v, %d", shape, ops, l, s, e)
			}
		}
	}
}

// P7.1: nothing is kept from one play to the next one: each begins without items.
func TestPlaysAreApart(t *testing.T) {
	for _, shape := range shapes {
		l, a, _ := spec.Play(shape, some(shape)...)
		want := a.Items()
		again, b, _ := spec.Play(shape, some(shape)...)
		if !slices.Equal(l, again) || !a.Same(b) || a == b {
			t.Fatalf("shape %d: %v, then %v", shape, l, again)
		}
		for _, op := range long(shape, 5) {
			a.Do(op)
		}
		check(t, b, want...)
	}
}

// P7.1, DOC's limits of all of it: there may be very many items (were each put or take as long as they are many, this would be slow).
func TestManyItems(t *testing.T) {
	const many = 300_000
	for _, shape := range []int{api.Queue, api.Stack} {
		s, _ := spec.New(shape)
		for n := range many {
			s.Do(put(n % 1000))
		}
		if s.Len() != many || len(s.Items()) != many {
			t.Fatal(shape, s.Len())
		}
		for n := range many {
			want := n % 1000
			if shape == api.Stack {
				want = (many - 1 - n) % 1000
			}
			if res, e := s.Do(take()); res != val(want) || e != api.OK {
				t.Fatal(shape, n, res, e)
			}
		}
		check(t, s)
	}
}
