package task_test

import (
	"math"
	"slices"
	"testing"

	"sherpa/api"
	"sherpa/task"
)

// tk is a task.
func tk(shape, kind, key int) task.Task {
	return task.Task{Shape: shape, Op: api.Op{Kind: kind, Key: key}}
}

// allowed tells what the chapter allows, pair by pair.
func allowed(shape, kind, key int) bool {
	keyed := map[[2]int]int{{1, 1}: 1, {1, 2}: 1, {1, 3}: 1, {2, 1}: 1, {2, 2}: 1, {2, 3}: 1, {3, 4}: 1, {4, 4}: 1}
	if keyed[[2]int{shape, kind}] == 1 {
		return key >= 0 && key <= 999
	}
	return (shape == 3 || shape == 4) && kind == 5 && key == 0
}

// around is tasks right and wrong: each shape and kind and what lies about them, with keys about the edges.
func around() []task.Task {
	var l []task.Task
	ends := []int{math.MinInt, -9, -8, -1, 0, 1, 2, 3, 4, 5, 6, 7, 8, 9, 16, math.MaxInt}
	for _, shape := range ends {
		for _, kind := range ends {
			for _, key := range []int{math.MinInt, -1024, -1, 0, 1, 2, 3, 4, 7, 500, 998, 999, 1000, 1023, 1024, math.MaxInt} {
				l = append(l, tk(shape, kind, key))
			}
		}
	}
	return l
}

// right is each right task.
func right() []task.Task {
	var l []task.Task
	for shape := 1; shape <= 4; shape++ {
		for kind := 1; kind <= 5; kind++ {
			for key := range 1000 {
				if allowed(shape, kind, key) {
					l = append(l, tk(shape, kind, key))
				}
			}
		}
	}
	return l
}

// P6.1: an operation is one of a shape as the chapter tells, and only what is has bits.
func TestRight(t *testing.T) {
	for _, a := range around() {
		want := allowed(a.Shape, a.Kind, a.Key)
		if got := task.Right(a.Shape, a.Op); got != want {
			t.Errorf("Right(%d, %+v) = %v", a.Shape, a.Op, got)
		}
		x, e := task.Put(a)
		if want && e != api.OK || !want && (x != 0 || e != api.ErrArg) {
			t.Errorf("Put(%+v) = %d, %d", a, x, e)
		}
	}
}

// P6.1: shape, kind and key stand in the bits from the lowest one on.
func TestPutLaysNumbers(t *testing.T) {
	for _, c := range []struct {
		t    task.Task
		want uint64
	}{
		{tk(api.Hash, api.Delete, 7), 2 + 16 + 448},
		{tk(api.List, api.Insert, 0), 1 + 1<<3},
		{tk(api.List, api.Has, 999), 1 + 3<<3 + 999<<6},
		{tk(api.Queue, api.Put, 1), 3 + 4<<3 + 1<<6},
		{tk(api.Queue, api.Take, 0), 3 + 5<<3},
		{tk(api.Stack, api.Put, 512), 4 + 4<<3 + 1<<15},
		{tk(api.Stack, api.Take, 0), 4 + 5<<3},
	} {
		if x, e := task.Put(c.t); x != c.want || e != api.OK {
			t.Errorf("Put(%+v) = %d, %d, want %d", c.t, x, e, c.want)
		}
		if got, e := task.Get(c.want); got != c.t || e != api.OK {
			t.Errorf("Get(%d) = %+v, %d, want %+v", c.want, got, e, c.t)
		}
	}
}

// P6.1: among all bits that fit, and some that don't, just the right tasks' are tasks, and each comes back.
func TestGet(t *testing.T) {
	tasks := map[uint64]task.Task{}
	for _, a := range right() {
		x, e := task.Put(a)
		if other, ok := tasks[x]; ok || e != api.OK {
			t.Fatalf("Put(%+v) = %d, %d; so is %+v", a, x, e, other)
		}
		tasks[x] = a
	}
	if len(tasks) != 8*1000+2 {
		t.Error(len(tasks), "tasks")
	}
	for x := range uint64(1 << 18) {
		want, ok := tasks[x]
		got, e := task.Get(x)
		if got != want || ok != (e == api.OK) || !ok && e != api.ErrForm {
			t.Fatalf("Get(%d) = %+v, %d, want %+v", x, got, e, want)
		}
	}
}

// P6.1: a foreign bit makes bits none, whichever it is.
func TestForeignBits(t *testing.T) {
	for _, a := range []task.Task{tk(1, 1, 0), tk(2, 3, 999), tk(3, 5, 0), tk(4, 5, 0), tk(4, 4, 1)} {
		x, _ := task.Put(a)
		for bit := 16; bit < 64; bit++ {
			if got, e := task.Get(x | 1<<bit); got != (task.Task{}) || e != api.ErrForm {
				t.Errorf("%+v with bit %d: %+v, %d", a, bit, got, e)
			}
		}
	}
	if got, e := task.Get(math.MaxUint64); got != (task.Task{}) || e != api.ErrForm {
		t.Error(got, e)
	}
}

// P6.1: Insert and Put link; Delete of both sets and Take of Queue mark; Take of Stack pops; nothing else does.
func TestWhatIsDone(t *testing.T) {
	for _, a := range right() {
		links := a.Kind == 1 || a.Kind == 4
		marks := a.Kind == 2 || a.Kind == 5 && a.Shape == 3
		pops := a.Kind == 5 && a.Shape == 4
		if a.Links() != links || a.Marks() != marks || a.Pops() != pops {
			t.Fatalf("%+v: links %v, marks %v, pops %v", a, a.Links(), a.Marks(), a.Pops())
		}
	}
}

// P6.1: what isn't right is told by its shape and kind likewise.
func TestWhatWrongTasksDo(t *testing.T) {
	for _, a := range around() {
		if got := a.Links(); got != (a.Kind == 1 || a.Kind == 4) {
			t.Errorf("%+v: links %v", a, got)
		}
		marks := a.Kind == 2 && (a.Shape == 1 || a.Shape == 2) || a.Kind == 5 && a.Shape == 3
		if got := a.Marks(); got != marks {
			t.Errorf("%+v: marks %v", a, got)
		}
		if got := a.Pops(); got != (a.Kind == 5 && a.Shape == 4) {
			t.Errorf("%+v: pops %v", a, got)
		}
	}
}

// P6.1: a task goes to its head, and to its own key, or to one end.
func TestPlace(t *testing.T) {
	for _, c := range []struct {
		t    task.Task
		want task.Place
	}{
		{tk(api.Hash, api.Delete, 7), task.Place{Head: 3, Key: 7}},
		{tk(api.Hash, api.Insert, 0), task.Place{Head: 0, Key: 0}},
		{tk(api.Hash, api.Has, 998), task.Place{Head: 2, Key: 998}},
		{tk(api.List, api.Insert, 7), task.Place{Head: 0, Key: 7}},
		{tk(api.List, api.Delete, 999), task.Place{Head: 0, Key: 999}},
		{tk(api.Queue, api.Put, 7), task.Place{Head: 0, Key: 1024}},
		{tk(api.Queue, api.Take, 0), task.Place{Head: 0, Key: -1}},
		{tk(api.Stack, api.Put, 7), task.Place{Head: 0, Key: -1}},
		{tk(api.Stack, api.Take, 0), task.Place{Head: 0, Key: -1}},
	} {
		if got := c.t.Place(); got != c.want {
			t.Errorf("%+v.Place() = %+v, want %+v", c.t, got, c.want)
		}
	}
	for _, a := range right() {
		want := task.Place{Key: -1}
		switch {
		case a.Shape == 1:
			want.Key = a.Key
		case a.Shape == 2:
			want = task.Place{Head: a.Key & 3, Key: a.Key}
		case a.Shape == 3 && a.Kind == 4:
			want.Key = 1024
		}
		if got := a.Place(); got != want {
			t.Fatalf("%+v.Place() = %+v, want %+v", a, got, want)
		}
	}
}

// P6.1: operations' tasks stand in their order, each with the shape.
func TestOf(t *testing.T) {
	ops := []api.Op{{Kind: api.Insert, Key: 5}, {Kind: api.Has, Key: 999}, {Kind: api.Insert, Key: 5}, {Kind: api.Delete}}
	for _, shape := range []int{api.List, api.Hash} {
		l, e := task.Of(shape, ops...)
		want := []task.Task{tk(shape, 1, 5), tk(shape, 3, 999), tk(shape, 1, 5), tk(shape, 2, 0)}
		if e != api.OK || !slices.Equal(l, want) {
			t.Errorf("Of(%d, ..) = %+v, %d", shape, l, e)
		}
	}
	for _, shape := range []int{math.MinInt, -1, 0, 1, 2, 3, 4, 5, math.MaxInt} {
		if l, e := task.Of(shape); len(l) != 0 || e != api.OK {
			t.Errorf("Of(%d) = %+v, %d", shape, l, e)
		}
	}
}

// P6.1: one operation that isn't right, wherever it stands, and no tasks are told.
func TestOfRefuses(t *testing.T) {
	put, take := api.Op{Kind: api.Put, Key: 3}, api.Op{Kind: api.Take}
	for _, bad := range []api.Op{{}, {Kind: api.Take, Key: 1}, {Kind: api.Put, Key: 1000}, {Kind: api.Put, Key: -1}, {Kind: api.Insert, Key: 3}, {Kind: 6}} {
		for _, ops := range [][]api.Op{{bad}, {bad, put}, {put, bad, take}, {put, take, bad}} {
			if l, e := task.Of(api.Queue, ops...); l != nil || e != api.ErrArg {
				t.Errorf("Of(Queue, %+v) = %+v, %d", ops, l, e)
			}
		}
	}
	for _, shape := range []int{math.MinInt, -1, 0, 1, 2, 5, math.MaxInt} {
		if l, e := task.Of(shape, put, take); l != nil || e != api.ErrArg {
			t.Errorf("Of(%d, put, take) = %+v, %d", shape, l, e)
		}
	}
}

// P6.1, rule 2: the operations are only read, and the tasks are not theirs.
func TestOfSharesNothing(t *testing.T) {
	ops := []api.Op{{Kind: api.Put, Key: 3}, {Kind: api.Take}}
	l, _ := task.Of(api.Stack, ops...)
	l[0].Key, l[1].Kind = 9, 9
	if !slices.Equal(ops, []api.Op{{Kind: api.Put, Key: 3}, {Kind: api.Take}}) {
		t.Error(ops)
	}
	again, _ := task.Of(api.Stack, ops...)
	ops[0].Key = 8
	if !slices.Equal(again, []task.Task{tk(4, 4, 3), tk(4, 5, 0)}) {
		t.Error(again)
	}
}

// P6.1: kinds have names, what is no kind has none.
func TestName(t *testing.T) {
	for kind, want := range []string{"", "insert", "delete", "has", "put", "take", "", ""} {
		if got := task.Name(kind); got != want {
			t.Errorf("Name(%d) = %q, want %q", kind, got, want)
		}
	}
	for _, kind := range []int{math.MinInt, -6, -1, 8, math.MaxInt} {
		if got := task.Name(kind); got != "" {
			t.Errorf("Name(%d) = %q", kind, got)
		}
	}
}
