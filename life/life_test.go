package life_test

import (
	"math"
	"slices"
	"testing"

	"sherpa/api"
	"sherpa/life"
	"sherpa/mem"
	"sherpa/trace"
)

var layout = mem.Layout{Threads: 2, Nodes: 3}

// wrong is layouts that may not be.
var wrong = []mem.Layout{
	{},
	{Threads: 1},
	{Nodes: 3},
	{Threads: 9, Nodes: 3},
	{Threads: -1, Nodes: -1},
	{Threads: 1, Nodes: 201},
	{Threads: 1, Nodes: math.MaxInt},
	{Threads: math.MaxInt, Nodes: math.MinInt},
}

// fresh is memory, with the nodes' lives as they are given.
func fresh(t *testing.T, l mem.Layout, lives ...uint64) *mem.Mem {
	t.Helper()
	m, e := mem.New(l, append(make([]uint64, l.Life(1)), lives...)...)
	if m == nil || e != api.OK {
		t.Fatal(m, e)
	}
	return m
}

// lives is the nodes' lives.
func lives(m *mem.Mem) []uint64 {
	var all []uint64
	for node := 1; node <= m.Nodes; node++ {
		all = append(all, m.Peek(m.Life(node)))
	}
	return all
}

// follow runs a machine to its end, and tells what it did.
func follow(t *testing.T, m *mem.Mem, x mem.Machine) []mem.Action {
	t.Helper()
	did, ok := trace.Of(m, 1000, x)
	if !ok {
		t.Fatalf("no end, or a step that isn't one action, behind %v", did)
	}
	return did
}

// loaded and swapped are the actions of a machine that takes.
func loaded(l mem.Layout, node int, x uint64) mem.Action {
	return trace.Load(l.Life(node), x)
}
func swapped(l mem.Layout, node int, is, old uint64) mem.Action {
	return trace.Cas(l.Life(node), is, old, old+1)
}

// idle is the action of a machine that has nothing to do.
var idle = mem.Action{Kind: mem.Load, Ok: true}

// P4.1: the chapter's own example.
func TestExample(t *testing.T) {
	m := fresh(t, layout, 1)
	a := life.New(layout, 1)
	want := []mem.Action{loaded(layout, 1, 1), loaded(layout, 2, 0), swapped(layout, 2, 0, 0)}
	if got := follow(t, m, a); !slices.Equal(got, want) || a.Got != 2 {
		t.Error(got, a.Got)
	}
}

// takenFrom is which node is taken from one on, and by which actions.
func takenFrom(l mem.Layout, was []uint64, from int) (int, []mem.Action) {
	var did []mem.Action
	for i := range was {
		node := (from-1+i)%len(was) + 1
		x := was[node-1]
		did = append(did, loaded(l, node, x))
		if x&1 == 0 {
			return node, append(did, swapped(l, node, x, x))
		}
	}
	return 0, did
}

// P4.1: alone, the first node from one on, round and round, is taken that is free, whatever the lives are; if none is, nothing is.
func TestAlone(t *testing.T) {
	for nodes := 1; nodes <= 6; nodes++ {
		l := mem.Layout{Threads: 1, Nodes: nodes}
		for mask := range 1 << nodes {
			was := make([]uint64, nodes)
			for i := range was {
				was[i] = uint64(10*i + mask>>i&1)
			}
			for from := 1; from <= nodes; from++ {
				m, a := fresh(t, l, was...), life.New(l, from)
				got := follow(t, m, a)
				node, want := takenFrom(l, was, from)
				if a.Got != node || !slices.Equal(got, want) {
					t.Fatalf("from %d of %v: %d by %v", from, was, a.Got, got)
				}
				now := slices.Clone(was)
				if node != 0 {
					now[node-1]++
				}
				if !slices.Equal(lives(m), now) {
					t.Fatalf("from %d of %v: %v", from, was, lives(m))
				}
			}
		}
	}
}

// P4.1: from a node that there isn't, it is as from the first one.
func TestFromNowhere(t *testing.T) {
	for _, from := range []int{0, -1, 4, 200, math.MaxInt, math.MinInt} {
		m, a := fresh(t, layout), life.New(layout, from)
		if got := follow(t, m, a); a.Got != 1 || len(got) != 2 || got[0] != loaded(layout, 1, 0) {
			t.Errorf("from %d: %d by %v", from, a.Got, got)
		}
	}
}

// P4.1: Got is 0 until the end; a node that is taken isn't got as long as the Cas isn't done.
func TestGotAtTheEnd(t *testing.T) {
	m, a := fresh(t, layout, 1), life.New(layout, 1)
	for step := range 2 {
		if a.Step(m) || a.Got != 0 || !slices.Equal(lives(m), []uint64{1, 0, 0}) {
			t.Fatal(step, a.Got, lives(m))
		}
	}
	if !a.Step(m) || a.Got != 2 || !slices.Equal(lives(m), []uint64{1, 1, 0}) {
		t.Error(a.Got, lives(m))
	}
	a.Step(m)
	if a.Got != 2 || !slices.Equal(lives(m), []uint64{1, 1, 0}) {
		t.Error("it takes more behind its end:", a.Got, lives(m))
	}
}

// P4.1: a node of which the Cas fails is gone over, even if it is free again.
func TestCasFails(t *testing.T) {
	m, a := fresh(t, layout), life.New(layout, 2)
	a.Step(m)
	m.Store(layout.Life(2), 2)
	want := []mem.Action{swapped(layout, 2, 2, 0), loaded(layout, 3, 0), swapped(layout, 3, 0, 0)}
	if got := follow(t, m, a); !slices.Equal(got, want) || a.Got != 3 {
		t.Error(got, a.Got)
	}
}

// P4.1: behind one round nothing is taken, though the Cas of each node failed, and all are free.
func TestRoundOfFailures(t *testing.T) {
	m, a := fresh(t, layout), life.New(layout, 2)
	for i, node := range []int{2, 3, 1} {
		if a.Step(m) || m.Last() != loaded(layout, node, 0) {
			t.Fatal(node, m.Last())
		}
		m.Add(layout.Life(node), 2)
		if ended := a.Step(m); ended != (i == 2) || m.Last() != swapped(layout, node, 2, 0) {
			t.Fatal(node, ended, m.Last())
		}
	}
	if a.Got != 0 || !slices.Equal(life.Free(m, layout), []int{1, 2, 3}) {
		t.Error(a.Got, lives(m))
	}
}

// P4.1: lives are words: the last odd one is followed by 0.
func TestGreatLives(t *testing.T) {
	const last = math.MaxUint64
	m, a := fresh(t, layout, last, last-1, 1<<63), life.New(layout, 1)
	if !slices.Equal(life.Free(m, layout), []int{2, 3}) || !life.Taken(m, layout, 1) {
		t.Error(life.Free(m, layout))
	}
	follow(t, m, a)
	follow(t, m, life.Back(layout, 1))
	if a.Got != 2 || !slices.Equal(lives(m), []uint64{0, last, 1 << 63}) {
		t.Error(a.Got, lives(m))
	}
}

// step is a machine with its node, as it is stepped by orders.
type step struct {
	x     *life.Alloc
	from  int
	ended bool
}

// play steps two machines in an order (a bit for each step), then both to their ends.
func play(t *testing.T, m *mem.Mem, order int, two []*step) {
	for range 16 {
		s := two[order&1]
		order >>= 1
		if !s.ended {
			s.ended = s.x.Step(m)
		}
	}
	for _, s := range two {
		if !s.ended {
			follow(t, m, s.x)
		}
	}
}

// P4.1: no two machines take one node, whatever the order of their steps; what was taken has one life more.
func TestNoTwoTakeOne(t *testing.T) {
	for nodes := 1; nodes <= 3; nodes++ {
		l := mem.Layout{Threads: 2, Nodes: nodes}
		for from := 1; from <= nodes; from++ {
			for order := range 1 << 12 {
				m := fresh(t, l)
				a, b := life.New(l, 1), life.New(l, from)
				play(t, m, order, []*step{{x: a}, {x: b}})
				want := make([]uint64, nodes)
				for _, x := range []*life.Alloc{a, b} {
					if x.Got != 0 {
						want[x.Got-1]++
					}
				}
				if a.Got == b.Got || !slices.Equal(lives(m), want) || nodes > 1 && (a.Got == 0 || b.Got == 0) {
					t.Fatalf("%d nodes, from 1 and %d, order %b: %d, %d; %v", nodes, from, order, a.Got, b.Got, lives(m))
				}
			}
		}
	}
}

// P4.1: with others that give back at the same time, a node is still nobody's but its taker's.
func TestTakeAndGiveBack(t *testing.T) {
	l := mem.Layout{Threads: 3, Nodes: 1}
	for order := range 1 << 8 {
		m := fresh(t, l, 1)
		a, b, g := life.New(l, 1), life.New(l, 1), life.Back(l, 1)
		two, given := []*step{{x: a}, {x: b}}, false
		for bits := order; bits > 0; bits >>= 2 {
			if s := bits & 3; s >= 2 && !given {
				given = g.Step(m)
			} else if s < 2 && !two[s].ended {
				two[s].ended = two[s].x.Step(m)
			}
		}
		if a.Got != 0 && b.Got != 0 {
			t.Fatalf("order %b: %d, %d", order, a.Got, b.Got)
		}
		if life.Taken(m, l, 1) != (!given || a.Got+b.Got == 1) {
			t.Fatalf("order %b: %v; %d, %d", order, lives(m), a.Got, b.Got)
		}
	}
}

// P4.1: nodes are given back one by one, in their order, each by an Add of 1 to its life.
func TestBack(t *testing.T) {
	for _, nodes := range [][]int{{1}, {3}, {3, 1}, {2, 3, 1}, {1, 1}} {
		m := fresh(t, layout, 5, 1, 7)
		want := lives(m)
		var did []mem.Action
		for _, node := range nodes {
			did = append(did, mem.Action{Kind: mem.Add, Addr: layout.Life(node), Old: want[node-1], New: want[node-1] + 1, Ok: true})
			want[node-1]++
		}
		if got := follow(t, m, life.Back(layout, nodes...)); !slices.Equal(got, did) || !slices.Equal(lives(m), want) {
			t.Errorf("%v: %v; %v", nodes, got, lives(m))
		}
	}
}

// P4.1: who gives nothing back loads address 0.
func TestBackOfNothing(t *testing.T) {
	for _, nodes := range [][]int{nil, {}} {
		m := fresh(t, layout, 1, 1, 1)
		before := m.Copy()
		if got := follow(t, m, life.Back(layout, nodes...)); !slices.Equal(got, []mem.Action{idle}) || !m.Same(before) {
			t.Error(got)
		}
	}
}

// P4.1: behind its end, no machine changes anything any more.
func TestBehindTheEnd(t *testing.T) {
	m := fresh(t, layout, 1, 1)
	a, g := life.New(layout, 3), life.Back(layout, 2)
	follow(t, m, a)
	follow(t, m, g)
	before := m.Copy()
	for range 5 {
		a.Step(m)
		g.Step(m)
	}
	if !m.Same(before) || a.Got != 3 {
		t.Error(lives(m), a.Got)
	}
}

// P4.1: what is no node has no life: to give it back is an action, and changes nothing.
func TestBackOfNoNode(t *testing.T) {
	for _, node := range []int{0, -1, -5, 4, 5, 200, 999, math.MaxInt, math.MinInt} {
		m := fresh(t, layout, 1, 1, 1)
		if got := follow(t, m, life.Back(layout, node, 2, node)); len(got) != 3 || got[0].Kind != mem.Add || got[0].Ok || got[1].Addr != layout.Life(2) {
			t.Errorf("%d: %v", node, got)
		}
		if !m.Same(fresh(t, layout, 1, 2, 1)) {
			t.Errorf("%d: another word is changed", node)
		}
	}
}

// P4.1, rule 2: the list that is handed in is neither kept nor written into.
func TestBackKeepsNothing(t *testing.T) {
	nodes := []int{1, 2}
	m := fresh(t, layout, 1, 1, 1)
	g := life.Back(layout, nodes...)
	nodes[0], nodes[1] = 3, 3
	follow(t, m, g)
	if !slices.Equal(nodes, []int{3, 3}) || !slices.Equal(lives(m), []uint64{2, 2, 1}) {
		t.Error(nodes, lives(m))
	}
}

// P4.1: who is asked what is taken does no action; what is no node isn't taken, whatever is in the words beside.
func TestTakenAndFree(t *testing.T) {
	words := make([]uint64, layout.Size())
	for i := range words {
		words[i] = 1
	}
	m, e := mem.New(layout, words...)
	if e != api.OK {
		t.Fatal(e)
	}
	for node := -20; node < 40; node++ {
		if got := life.Taken(m, layout, node); got != (node >= 1 && node <= 3) {
			t.Errorf("Taken(%d) = %v", node, got)
		}
	}
	if life.Taken(m, layout, math.MaxInt) || life.Taken(m, layout, math.MinInt) || len(life.Free(m, layout)) != 0 {
		t.Error(life.Free(m, layout))
	}
	for mask := range 8 {
		var want []int
		for node := 1; node <= 3; node++ {
			x := uint64(4 + mask>>(node-1)&1)
			m.Store(layout.Life(node), x)
			if x == 4 {
				want = append(want, node)
			}
		}
		done, last := m.Actions(), m.Last()
		for node := 1; node <= 3; node++ {
			if got := life.Taken(m, layout, node); got == slices.Contains(want, node) {
				t.Errorf("%b: Taken(%d) = %v", mask, node, got)
			}
		}
		if got := life.Free(m, layout); !slices.Equal(got, want) {
			t.Errorf("%b: Free is %v", mask, got)
		}
		if m.Actions() != done || m.Last() != last {
			t.Error("who asks does an action")
		}
	}
}

// P4.1: of the greatest layout all nodes can be taken, and are free again when they are given back.
func TestAllNodes(t *testing.T) {
	l := mem.Layout{Threads: 8, Nodes: 200}
	m := fresh(t, l)
	var got []int
	for range 200 {
		a := life.New(l, 150)
		follow(t, m, a)
		got = append(got, a.Got)
	}
	if got[0] != 150 || got[50] != 200 || got[51] != 1 || len(life.Free(m, l)) != 0 {
		t.Error(got, life.Free(m, l))
	}
	a := life.New(l, 150)
	if n, ok := mem.Run(m, 1000, a); n != 200 || !ok || a.Got != 0 {
		t.Error(n, ok, a.Got)
	}
	follow(t, m, life.Back(l, got...))
	if n := len(life.Free(m, l)); n != 200 {
		t.Error(n)
	}
}

// P4.1: a layout that may not be has no nodes; each machine of it ends with its first step.
func TestWrongLayouts(t *testing.T) {
	for _, l := range wrong {
		m := fresh(t, layout, 1, 1, 1)
		before := m.Copy()
		a := life.New(l, 1)
		if got := follow(t, m, a); !slices.Equal(got, []mem.Action{idle}) || a.Got != 0 {
			t.Errorf("%+v: %v, %d", l, got, a.Got)
		}
		if got := follow(t, m, life.Back(l, 1)); len(got) != 1 || got[0].Kind != mem.Add || !m.Same(before) {
			t.Errorf("%+v: %v", l, got)
		}
		if life.Taken(m, l, 1) || life.Free(m, l) != nil {
			t.Errorf("%+v: %v", l, life.Free(m, l))
		}
	}
}

// P4.1: machines that New and Back didn't make, and memory that isn't there, end too.
func TestUnmade(t *testing.T) {
	m := fresh(t, layout)
	a := new(life.Alloc)
	if n, ok := mem.Run(m, 9, a, new(life.Give)); n != 2 || !ok || a.Got != 0 || !m.Same(fresh(t, layout)) {
		t.Error(n, ok, a.Got)
	}
	b := life.New(layout, 2)
	if n, ok := mem.Run(nil, 99, b, life.Back(layout, 1, 2)); !ok || b.Got != 0 {
		t.Error(n, ok, b.Got)
	}
	if life.Taken(nil, layout, 1) {
		t.Error("a node of nothing is taken")
	}
	life.Free(nil, layout)
}

// P4.1: both machines have the addresses of their layout.
func TestEmbedded(t *testing.T) {
	a, g := life.New(layout, 1), life.Back(layout, 1)
	if a.Layout != layout || g.Layout != layout || a.Life(2) != layout.Life(2) || g.Size() != layout.Size() {
		t.Error(a.Layout, g.Layout)
	}
}
