package guard_test

import (
	"math"
	"slices"
	"testing"

	"sherpa/api"
	"sherpa/guard"
	"sherpa/life"
	"sherpa/mem"
	"sherpa/trace"
)

var layout = mem.Layout{Threads: 2, Nodes: 3}

// wrong is layouts that may not be.
var wrong = []mem.Layout{
	{},
	{Threads: 2},
	{Nodes: 3},
	{Threads: 9, Nodes: 3},
	{Threads: -1, Nodes: 3},
	{Threads: 2, Nodes: 201},
	{Threads: math.MaxInt, Nodes: 3},
	{Threads: math.MinInt, Nodes: math.MaxInt},
}

// fresh is memory whose nodes are all taken, with the slots as they are given.
func fresh(t *testing.T, l mem.Layout, slots ...uint64) *mem.Mem {
	t.Helper()
	words := make([]uint64, l.Slot(0, 0))
	for node := 1; node <= l.Nodes; node++ {
		words[l.Life(node)] = 1
	}
	m, e := mem.New(l, append(words, slots...)...)
	if m == nil || e != api.OK {
		t.Fatal(m, e)
	}
	return m
}

// full is memory of which each word is the same.
func full(t *testing.T, l mem.Layout, x uint64) *mem.Mem {
	t.Helper()
	m, e := mem.New(l, slices.Repeat([]uint64{x}, l.Size())...)
	if m == nil || e != api.OK {
		t.Fatal(m, e)
	}
	return m
}

// follow runs a machine to its end, and tells what it did.
func follow(t *testing.T, m *mem.Mem, x mem.Machine) []mem.Action {
	t.Helper()
	did, ok := trace.Of(m, 1000, x)
	if !ok {
		t.Fatalf("no end, or a step that isn't one action, behind %v", did)
	}
	return did
}

// P5.1: a node that is in a slot is kept, another one is given back.
func TestExample(t *testing.T) {
	m := fresh(t, layout, 0, 0, 2)
	s := guard.New(layout, 1, 2)
	want := []mem.Action{
		trace.Load(layout.Slot(0, 0), 0), trace.Load(layout.Slot(0, 1), 0),
		trace.Load(layout.Slot(1, 0), 2), trace.Load(layout.Slot(1, 1), 0),
		trace.Add(layout.Life(1), 1, 1),
	}
	if got := follow(t, m, s); !slices.Equal(got, want) {
		t.Error(got)
	}
	if !slices.Equal(s.Kept, []int{2}) || !slices.Equal(s.Freed, []int{1}) || !slices.Equal(life.Free(m, layout), []int{1}) {
		t.Error(s.Kept, s.Freed, life.Free(m, layout))
	}
}

// fillings is all ways in which so many slots can have nodes, or 0.
func fillings(slots, nodes int) [][]uint64 {
	all := [][]uint64{nil}
	for range slots {
		var longer [][]uint64
		for _, f := range all {
			for x := range nodes + 1 {
				longer = append(longer, append(slices.Clone(f), uint64(x)))
			}
		}
		all = longer
	}
	return all
}

// expected is what a scan does and tells, when nobody else does anything.
func expected(l mem.Layout, slots []uint64, nodes []int) (did []mem.Action, kept, freed []int) {
	for i, x := range slots {
		did = append(did, trace.Load(l.Slot(i/2, i%2), x))
	}
	for _, node := range nodes {
		if slices.Contains(slots, uint64(node)) {
			kept = append(kept, node)
		} else {
			did, freed = append(did, trace.Add(l.Life(node), 1, 1)), append(freed, node)
		}
	}
	return did, kept, freed
}

// P5.1: whatever the slots have, all of them are loaded in order; then what none told is given back, in the order in which it was handed in; no other word changes.
func TestScan(t *testing.T) {
	lists := [][]int{nil, {1}, {3}, {1, 2, 3}, {3, 2, 1}, {2, 3, 1}, {3, 1}}
	for threads := 1; threads <= 2; threads++ {
		l := mem.Layout{Threads: threads, Nodes: 3}
		for _, slots := range fillings(2*threads, 3) {
			for _, nodes := range lists {
				m, s := fresh(t, l, slots...), guard.New(l, nodes...)
				after := m.Copy()
				want, kept, freed := expected(l, slots, nodes)
				for _, node := range freed {
					after.Store(l.Life(node), 2)
				}
				got := follow(t, m, s)
				if !slices.Equal(got, want) || !slices.Equal(s.Kept, kept) || !slices.Equal(s.Freed, freed) || !m.Same(after) {
					t.Fatalf("slots %v, for %v: kept %v, freed %v, by %v", slots, nodes, s.Kept, s.Freed, got)
				}
				if len(got) != guard.Steps(l, len(freed)) {
					t.Fatalf("slots %v, for %v: %d steps", slots, nodes, len(got))
				}
			}
		}
	}
}

// P5.1: what was kept and freed is told at the end, not ahead of it.
func TestToldAtTheEnd(t *testing.T) {
	m, s := fresh(t, layout, 2), guard.New(layout, 3, 2, 1)
	for step := range 5 {
		if s.Step(m) || len(s.Kept)+len(s.Freed) != 0 {
			t.Fatal(step, s.Kept, s.Freed)
		}
	}
	if !s.Step(m) || !slices.Equal(s.Kept, []int{2}) || !slices.Equal(s.Freed, []int{3, 1}) {
		t.Error(s.Kept, s.Freed)
	}
}

// P5.1: if all are kept, or there is nothing to scan for, the last slot's Load is the end.
func TestNothingToGive(t *testing.T) {
	for _, nodes := range [][]int{nil, {}, {1}, {1, 3}} {
		m, s := fresh(t, layout, 3, 0, 0, 1), guard.New(layout, nodes...)
		before := m.Copy()
		got := follow(t, m, s)
		if len(got) != 4 || got[3] != trace.Load(layout.Slot(1, 1), 1) || !slices.Equal(s.Kept, nodes) || len(s.Freed) != 0 || !m.Same(before) {
			t.Errorf("for %v: %v; %v, %v", nodes, got, s.Kept, s.Freed)
		}
	}
}

// P5.1: what is in a slot from ahead of a scan to its end is kept, whatever the others put into the other slots meanwhile.
func TestGuardedAllTheTime(t *testing.T) {
	for held := range 4 {
		for _, moves := range fillings(4, 3) {
			m := fresh(t, layout, 3, 3, 3, 3)
			m.Store(layout.Slot(held/2, held%2), 2)
			s := guard.New(layout, 2)
			for i, ended := 0, false; !ended; i++ {
				ended = s.Step(m)
				if other := (held + 1 + i%3) % 4; i < len(moves) {
					m.Store(layout.Slot(other/2, other%2), moves[i])
				}
			}
			if !slices.Equal(s.Kept, []int{2}) || len(s.Freed) != 0 || !life.Taken(m, layout, 2) {
				t.Fatalf("slot %d has it, the others %v: %v, %v", held, moves, s.Kept, s.Freed)
			}
		}
	}
}

// P5.1: a scan goes by what each slot told when it was loaded.
func TestSlotsThatChange(t *testing.T) {
	for slot := range 4 {
		for when := range 4 {
			addr := layout.Slot(slot/2, slot%2)
			for _, c := range []struct {
				was, is uint64
				kept    bool
			}{{1, 0, when > slot}, {0, 1, when <= slot}, {1, 2, when > slot}, {1, 1, true}, {2, 3, false}} {
				m, s := fresh(t, layout), guard.New(layout, 1)
				m.Store(addr, c.was)
				for range when {
					s.Step(m)
				}
				m.Store(addr, c.is)
				follow(t, m, s)
				if kept := slices.Equal(s.Kept, []int{1}); kept != c.kept || kept == slices.Equal(s.Freed, []int{1}) {
					t.Errorf("slot %d is %d, %d from step %d on: %v, %v", slot, c.was, c.is, when, s.Kept, s.Freed)
				}
			}
		}
	}
}

// P5.1: what is guarded only when the slots were loaded is given back all the same, one node with each step.
func TestGuardedTooLate(t *testing.T) {
	m, s := fresh(t, layout), guard.New(layout, 2, 1)
	for range 4 {
		s.Step(m)
	}
	m.Store(layout.Slot(0, 0), 1)
	if s.Step(m) || m.Last() != trace.Add(layout.Life(2), 1, 1) || life.Taken(m, layout, 2) || !life.Taken(m, layout, 1) {
		t.Error(m.Last())
	}
	if !s.Step(m) || m.Last() != trace.Add(layout.Life(1), 1, 1) || !slices.Equal(s.Freed, []int{2, 1}) {
		t.Error(m.Last(), s.Freed)
	}
}

// P5.1: a life is one more with each Add, whatever it is meanwhile.
func TestGivenBackByAdds(t *testing.T) {
	m, s := fresh(t, layout), guard.New(layout, 1)
	for range 4 {
		s.Step(m)
	}
	m.Store(layout.Life(1), math.MaxUint64)
	if !s.Step(m) || m.Last() != trace.Add(layout.Life(1), math.MaxUint64, 1) || m.Peek(layout.Life(1)) != 0 {
		t.Error(m.Last())
	}
}

// P5.1: nodes are a list: what is in it twice is kept twice, or given back twice.
func TestNodesTwice(t *testing.T) {
	m, s := fresh(t, layout, 2), guard.New(layout, 1, 2, 1, 2)
	if got := follow(t, m, s); len(got) != 6 || m.Peek(layout.Life(1)) != 3 || m.Peek(layout.Life(2)) != 1 {
		t.Error(got)
	}
	if !slices.Equal(s.Kept, []int{2, 2}) || !slices.Equal(s.Freed, []int{1, 1}) {
		t.Error(s.Kept, s.Freed)
	}
}

// P5.1: what is no node is given back, if no slot told it, and no other word changes by that.
func TestScanForNoNode(t *testing.T) {
	for _, node := range []int{-1, -5, 4, 5, 200, 999, math.MaxInt, math.MinInt} {
		m, s := fresh(t, layout, 1), guard.New(layout, node, 2, node)
		after := m.Copy()
		after.Store(layout.Life(2), 2)
		if got := follow(t, m, s); len(got) != 7 || !m.Same(after) || !slices.Equal(s.Freed, []int{node, 2, node}) || len(s.Kept) != 0 {
			t.Errorf("%d: %v; %v, %v", node, got, s.Kept, s.Freed)
		}
	}
}

// P5.1: 0 is kept, if a slot told it; without any that did, it is gone, and no word changes.
func TestScanForNobody(t *testing.T) {
	m, s := fresh(t, layout, 1, 2, 3), guard.New(layout, 0)
	before := m.Copy()
	if got := follow(t, m, s); len(got) != 4 || !slices.Equal(s.Kept, []int{0}) || len(s.Freed) != 0 || !m.Same(before) {
		t.Error(got, s.Kept, s.Freed)
	}
	m, s = fresh(t, layout, 1, 2, 3, 3), guard.New(layout, 0)
	before = m.Copy()
	if got := follow(t, m, s); len(got) != 5 || !slices.Equal(s.Freed, []int{0}) || len(s.Kept) != 0 || !m.Same(before) {
		t.Error(got, s.Kept, s.Freed)
	}
}

// P5.1: a slot's whole word counts: none of its bits are gone over, and it is no number below 0.
func TestGreatWords(t *testing.T) {
	m := fresh(t, layout, math.MaxUint64, 1<<63|1, 1<<32|2, 1<<16|3)
	s := guard.New(layout, 1, 2, 3, -1, math.MinInt+1)
	follow(t, m, s)
	if len(s.Kept) != 0 || len(s.Freed) != 5 || !slices.Equal(life.Free(m, layout), []int{1, 2, 3}) {
		t.Error(s.Kept, s.Freed)
	}
	for _, node := range []int{1, 2, 3, -1, math.MinInt + 1} {
		if guard.Guarded(m, layout, node) {
			t.Error(node)
		}
	}
}

// P5.1, rule 2: a scan shares nothing with the list that is handed in, nor its lists with each other.
func TestScanSharesNothing(t *testing.T) {
	nodes := []int{1, 2, 3}
	m, s := fresh(t, layout, 2), guard.New(layout, nodes...)
	nodes[0], nodes[1], nodes[2] = 7, 7, 7
	follow(t, m, s)
	if !slices.Equal(nodes, []int{7, 7, 7}) || !slices.Equal(s.Kept, []int{2}) || !slices.Equal(s.Freed, []int{1, 3}) {
		t.Fatal(nodes, s.Kept, s.Freed)
	}
	kept, freed := append(s.Kept, 8, 8, 8), append(s.Freed, 9, 9, 9)
	if !slices.Equal(kept, []int{2, 8, 8, 8}) || !slices.Equal(freed, []int{1, 3, 9, 9, 9}) {
		t.Error(kept, freed)
	}
}

// P5.1: two scans at one time are each for themselves.
func TestTwoScans(t *testing.T) {
	m := fresh(t, layout, 0, 3)
	a, b := guard.New(layout, 1, 3), guard.New(layout, 2)
	for range 4 {
		a.Step(m)
		b.Step(m)
	}
	b.Step(m)
	a.Step(m)
	if !slices.Equal(a.Kept, []int{3}) || !slices.Equal(a.Freed, []int{1}) || !slices.Equal(b.Freed, []int{2}) || len(b.Kept) != 0 {
		t.Error(a.Kept, a.Freed, b.Kept, b.Freed)
	}
}

// P5.1: behind its end no machine changes anything any more.
func TestBehindTheEnd(t *testing.T) {
	m := fresh(t, layout, 1, 2, 3, 3)
	all := []mem.Machine{guard.New(layout), guard.New(layout, 1), guard.New(layout, 2, 3), guard.Drop(layout, 0)}
	for _, x := range all {
		follow(t, m, x)
	}
	s := guard.New(layout, 1, 3)
	follow(t, m, s)
	before := m.Copy()
	for range 6 {
		for _, x := range append(all, s) {
			x.Step(m)
		}
	}
	if !m.Same(before) || !slices.Equal(s.Freed, []int{1}) || !slices.Equal(s.Kept, []int{3}) {
		t.Error(s.Freed, s.Kept)
	}
}

// P5.1: of the greatest layout each slot is seen.
func TestGreatestLayout(t *testing.T) {
	l := mem.Layout{Threads: 8, Nodes: 200}
	var nodes, kept, freed []int
	m := fresh(t, l)
	for node := 200; node >= 1; node-- {
		nodes = append(nodes, node)
		if slot := node/12 - 1; node%12 == 0 && slot < 16 {
			m.Store(l.Slot(slot/2, slot%2), uint64(node))
			kept = append(kept, node)
		} else {
			freed = append(freed, node)
		}
	}
	s := guard.New(l, nodes...)
	got := follow(t, m, s)
	if len(kept) != 16 || len(got) != 16+184 || !slices.Equal(s.Kept, kept) || !slices.Equal(s.Freed, freed) || len(life.Free(m, l)) != 184 {
		t.Error(len(got), s.Kept, s.Freed)
	}
}

// P5.1: a thread that drops stores 0 in its first slot, then in its second one, whatever they have, and nowhere else.
func TestDrop(t *testing.T) {
	for threads := 1; threads <= 8; threads++ {
		l := mem.Layout{Threads: threads, Nodes: 2}
		for thread := range threads {
			for _, x := range []uint64{0, 1, 2, math.MaxUint64} {
				m := full(t, l, x)
				after := m.Copy()
				after.Store(l.Slot(thread, 0), 0)
				after.Store(l.Slot(thread, 1), 0)
				want := []mem.Action{trace.Store(l.Slot(thread, 0), x, 0), trace.Store(l.Slot(thread, 1), x, 0)}
				if got := follow(t, m, guard.Drop(l, thread)); !slices.Equal(got, want) || !m.Same(after) {
					t.Errorf("%d of %d: %v", thread, threads, got)
				}
			}
		}
	}
}

// P5.1: between its two steps a thread still guards what is in its second slot.
func TestDropBySteps(t *testing.T) {
	m, c := fresh(t, layout, 1, 2, 3, 3), guard.Drop(layout, 0)
	if c.Step(m) || guard.Guarded(m, layout, 1) || !guard.Guarded(m, layout, 2) {
		t.Error("first step", m.Last())
	}
	if !c.Step(m) || guard.Guarded(m, layout, 2) || !guard.Guarded(m, layout, 3) {
		t.Error("second step", m.Last())
	}
}

// P5.1: who is no thread has no slots: each step is an action, and no word changes.
func TestDropOfNoThread(t *testing.T) {
	for _, thread := range []int{-1, -2, 2, 3, 8, math.MaxInt, math.MinInt} {
		m := full(t, layout, 1)
		before := m.Copy()
		if got := follow(t, m, guard.Drop(layout, thread)); len(got) != 2 || !m.Same(before) {
			t.Errorf("%d: %v", thread, got)
		}
	}
}

// P5.1: a node is guarded as long as it is in one of the slots; who asks does no action.
func TestGuarded(t *testing.T) {
	for _, slots := range fillings(4, 3) {
		m := fresh(t, layout, slots...)
		for node := 1; node <= 3; node++ {
			if got := guard.Guarded(m, layout, node); got != slices.Contains(slots, uint64(node)) {
				t.Fatalf("slots %v: Guarded(%d) = %v", slots, node, got)
			}
		}
		if m.Actions() != 0 || m.Last() != (mem.Action{}) {
			t.Fatal("who asks does an action")
		}
	}
}

// P5.1: 0 is guarded by none, nor is what no slot has; words beside the slots don't count.
func TestNotGuarded(t *testing.T) {
	for x := range uint64(4) {
		m := full(t, layout, x)
		for slot := range 4 {
			m.Store(layout.Slot(slot/2, slot%2), 0)
		}
		for _, node := range []int{0, 1, 2, 3, 4, -1, 999, math.MaxInt, math.MinInt} {
			if guard.Guarded(m, layout, node) {
				t.Errorf("full of %d: Guarded(%d)", x, node)
			}
		}
	}
}

// P5.1: a scan has two steps for each thread, and one for each node that it gives back.
func TestSteps(t *testing.T) {
	for threads := range 9 {
		for _, c := range [][2]int{{0, 0}, {1, 1}, {7, 7}, {200, 200}, {-1, 0}, {-50, 0}, {math.MinInt, 0}} {
			for _, nodes := range []int{0, 1, 200} {
				if got := guard.Steps(mem.Layout{Threads: threads, Nodes: nodes}, c[0]); got != 2*threads+c[1] {
					t.Errorf("Steps(%d threads, %d) = %d", threads, c[0], got)
				}
			}
		}
	}
	if got := guard.Steps(mem.Layout{Threads: -3, Nodes: 1}, 2); got != 2 {
		t.Error("of no threads:", got)
	}
}

// P5.1: of a layout that isn't right nothing is guarded, nothing changes, and all ends.
func TestWrongLayouts(t *testing.T) {
	for _, l := range wrong {
		m := full(t, layout, 1)
		before := m.Copy()
		idle := []mem.Action{trace.Load(0, 1)}
		if got := follow(t, m, guard.New(l)); !slices.Equal(got, idle) {
			t.Errorf("%+v: %v", l, got)
		}
		if got := follow(t, m, guard.New(l, 1, 3)); len(got) != 2 {
			t.Errorf("%+v: %v", l, got)
		}
		if got := follow(t, m, guard.Drop(l, 0)); len(got) != 2 {
			t.Errorf("%+v: %v", l, got)
		}
		if guard.Guarded(m, l, 1) || !m.Same(before) {
			t.Errorf("%+v: a word is changed, or guards", l)
		}
	}
}

// P5.1: over no memory, and of machines that weren't made, nothing panics.
func TestNoMemory(t *testing.T) {
	for _, x := range []mem.Machine{guard.New(layout, 1, 2), guard.Drop(layout, 1), new(guard.Scan), new(guard.Clear)} {
		if _, ok := mem.Run(nil, 100, x); !ok {
			t.Errorf("%T doesn't end", x)
		}
	}
	if guard.Guarded(nil, layout, 1) {
		t.Error("no memory guards")
	}
	m := full(t, layout, 1)
	before := m.Copy()
	for _, x := range []mem.Machine{new(guard.Scan), new(guard.Clear), &guard.Scan{Layout: layout}} {
		follow(t, m, x)
	}
	if !m.Same(before) {
		t.Error("a machine that wasn't made changes a word")
	}
}

// P5.1: the machines, and who asks about them, have the layout's own functions.
func TestEmbedding(t *testing.T) {
	s, c := guard.New(layout, 1), guard.Drop(layout, 1)
	if s.Layout != layout || c.Layout != layout || s.Slot(1, 1) != layout.Slot(1, 1) || c.Size() != layout.Size() {
		t.Error(s.Layout, c.Layout)
	}
}
