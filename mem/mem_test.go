package mem_test

import (
	"math"
	"slices"
	"testing"

	"sherpa/api"
	"sherpa/mem"
)

var layout = mem.Layout{Threads: 2, Nodes: 3}

// odd is numbers that are no thread's, node's or address.
var odd = []int{-1, -9, 1000, math.MaxInt, math.MinInt}

// fresh is memory that begins with words.
func fresh(t *testing.T, l mem.Layout, words ...uint64) *mem.Mem {
	t.Helper()
	m, e := mem.New(l, words...)
	if m == nil || e != api.OK {
		t.Fatal(m, e)
	}
	return m
}

// all is the words of a memory.
func all(m *mem.Mem, size int) []uint64 {
	var l []uint64
	for addr := range size {
		l = append(l, m.Peek(addr))
	}
	return l
}

// addresses is all addresses of a layout that have names, in the order of the chapter.
func addresses(l mem.Layout) []int {
	var a []int
	for n := range 4 {
		a = append(a, l.Head(n))
	}
	for node := 1; node <= l.Nodes; node++ {
		a = append(a, l.Life(node))
	}
	for thread := range l.Threads {
		a = append(a, l.Slot(thread, 0), l.Slot(thread, 1))
	}
	for thread := range l.Threads {
		a = append(a, l.Ticket(thread), l.Task(thread), l.Desc(thread))
	}
	return append(a, l.Counter())
}

// P3.1: the kinds of actions are these numbers.
func TestKinds(t *testing.T) {
	if got := []int{mem.Load, mem.Store, mem.Cas, mem.Add}; !slices.Equal(got, []int{1, 2, 3, 4}) {
		t.Error(got)
	}
}

// P3.1: a layout has from one to eight threads, and from one to two hundred nodes.
func TestRight(t *testing.T) {
	for _, c := range []struct {
		l    mem.Layout
		want bool
	}{
		{mem.Layout{Threads: 1, Nodes: 1}, true},
		{mem.Layout{Threads: 8, Nodes: 200}, true},
		{mem.Layout{Threads: 8, Nodes: 1}, true},
		{mem.Layout{Threads: 1, Nodes: 200}, true},
		{mem.Layout{}, false},
		{mem.Layout{Threads: 0, Nodes: 1}, false},
		{mem.Layout{Threads: 9, Nodes: 1}, false},
		{mem.Layout{Threads: -1, Nodes: 1}, false},
		{mem.Layout{Threads: 1, Nodes: 0}, false},
		{mem.Layout{Threads: 1, Nodes: 201}, false},
		{mem.Layout{Threads: 1, Nodes: -1}, false},
		{mem.Layout{Threads: math.MaxInt, Nodes: math.MinInt}, false},
	} {
		if got := c.l.Right(); got != c.want {
			t.Errorf("%+v: %v", c.l, got)
		}
		m, e := mem.New(c.l)
		if c.want && (m == nil || e != api.OK) || !c.want && (m != nil || e != api.ErrArg) {
			t.Errorf("New(%+v) = %v, %d", c.l, m, e)
		}
	}
}

// P3.1: the chapter's own example.
func TestSmallestLayout(t *testing.T) {
	l := mem.Layout{Threads: 1, Nodes: 1}
	if got := addresses(l); !slices.Equal(got, []int{2, 3, 4, 5, 6, 7, 8, 9, 10, 11, 12}) || l.Size() != 13 {
		t.Error(got, l.Size())
	}
}

// P3.1: in each layout the addresses stand one behind the other, behind the nodes, and all are unlike.
func TestAddresses(t *testing.T) {
	for threads := 1; threads <= 8; threads++ {
		for nodes := 1; nodes <= 200; nodes++ {
			l := mem.Layout{Threads: threads, Nodes: nodes}
			got := addresses(l)
			for i, addr := range got {
				if addr != nodes+1+i {
					t.Fatalf("%+v: address %d is %d, want %d", l, i, addr, nodes+1+i)
				}
			}
			if want := nodes + 1 + len(got); l.Size() != want {
				t.Fatalf("%+v: size %d, want %d", l, l.Size(), want)
			}
			for addr := -2; addr < l.Size()+2; addr++ {
				if l.Node(addr) != (addr >= 1 && addr <= nodes) {
					t.Fatalf("%+v: Node(%d) = %v", l, addr, l.Node(addr))
				}
			}
		}
	}
}

// P3.1: whatever the numbers, nothing panics.
func TestAddressesOfNothing(t *testing.T) {
	for _, l := range []mem.Layout{{}, layout, {Threads: -7, Nodes: -7}, {Threads: math.MaxInt, Nodes: math.MinInt}} {
		for _, n := range odd {
			l.Head(n)
			l.Life(n)
			l.Ticket(n)
			l.Task(n)
			l.Desc(n)
			for _, thread := range odd {
				l.Slot(thread, n)
			}
		}
		l.Counter()
		l.Size()
	}
	for _, n := range odd {
		if layout.Node(n) {
			t.Error(n)
		}
	}
}

// P3.1: memory begins with the words that are given, all others are 0; nothing was done yet.
func TestNew(t *testing.T) {
	for _, n := range []int{0, 1, 5, layout.Size()} {
		given := make([]uint64, n, layout.Size()+3)
		for i := range given {
			given[i] = math.MaxUint64 - uint64(i)
		}
		m := fresh(t, layout, given...)
		want := make([]uint64, layout.Size())
		copy(want, given)
		if got := all(m, layout.Size()); !slices.Equal(got, want) {
			t.Errorf("of %d words: %v", n, got)
		}
		if m.Actions() != 0 || m.Last() != (mem.Action{}) {
			t.Error(m.Actions(), m.Last())
		}
		if m.Layout != layout || m.Size() != layout.Size() || m.Head(2) != layout.Head(2) {
			t.Error(m.Layout)
		}
	}
}

// P3.1: what is wrong is told, the layout ahead of the words.
func TestNewRefuses(t *testing.T) {
	size := layout.Size()
	for _, c := range []struct {
		l     mem.Layout
		words int
		want  api.Errno
	}{
		{layout, size + 1, api.ErrLong},
		{layout, size + 500, api.ErrLong},
		{mem.Layout{Threads: 1, Nodes: 1}, 14, api.ErrLong},
		{mem.Layout{Threads: 9, Nodes: 1}, 0, api.ErrArg},
		{mem.Layout{Threads: 9, Nodes: 1}, 5000, api.ErrArg},
		{mem.Layout{Threads: 1, Nodes: 201}, 5000, api.ErrArg},
		{mem.Layout{}, 1, api.ErrArg},
	} {
		if m, e := mem.New(c.l, make([]uint64, c.words)...); m != nil || e != c.want {
			t.Errorf("New(%+v, %d words) = %v, %d, want %d", c.l, c.words, m, e, c.want)
		}
	}
}

// P3.1, rule 2: a memory shares nothing with the words that it was given.
func TestNewSharesNothing(t *testing.T) {
	given := make([]uint64, layout.Size())
	m := fresh(t, layout, given...)
	m.Store(1, 7)
	if given[1] != 0 {
		t.Error("the argument is written into")
	}
	given[2] = 8
	if m.Peek(2) != 0 {
		t.Error("the memory goes by its argument")
	}
}

// done is one action: what it told, and what is noted of it.
type done struct {
	name   string
	do     func(m *mem.Mem, addr int) (uint64, bool)
	tells  uint64
	ok     bool
	kind   int
	word   uint64
	noted  uint64
	wasSet bool
}

// actions is actions at a word that is 9.
func actions() []done {
	return []done{
		{"Load", func(m *mem.Mem, a int) (uint64, bool) { return m.Load(a), false }, 9, false, 1, 9, 9, true},
		{"Store", func(m *mem.Mem, a int) (uint64, bool) { m.Store(a, 4); return 0, false }, 0, false, 2, 4, 4, true},
		{"Store of the same", func(m *mem.Mem, a int) (uint64, bool) { m.Store(a, 9); return 0, false }, 0, false, 2, 9, 9, true},
		{"Cas", func(m *mem.Mem, a int) (uint64, bool) { return 0, m.Cas(a, 9, 5) }, 0, true, 3, 5, 5, true},
		{"Cas to the same", func(m *mem.Mem, a int) (uint64, bool) { return 0, m.Cas(a, 9, 9) }, 0, true, 3, 9, 9, true},
		{"Cas that fails", func(m *mem.Mem, a int) (uint64, bool) { return 0, m.Cas(a, 8, 5) }, 0, false, 3, 9, 5, false},
		{"Cas that fails to the same", func(m *mem.Mem, a int) (uint64, bool) { return 0, m.Cas(a, 5, 5) }, 0, false, 3, 9, 5, false},
		{"Add", func(m *mem.Mem, a int) (uint64, bool) { return m.Add(a, 3), false }, 9, false, 4, 12, 12, true},
		{"Add of 0", func(m *mem.Mem, a int) (uint64, bool) { return m.Add(a, 0), false }, 9, false, 4, 9, 9, true},
		{"Add round", func(m *mem.Mem, a int) (uint64, bool) { return m.Add(a, math.MaxUint64), false }, 9, false, 4, 8, 8, true},
	}
}

// P3.1: an action does what it says at its own address, is counted, and noted.
func TestActions(t *testing.T) {
	size := layout.Size()
	for _, a := range actions() {
		for addr := range size {
			was := make([]uint64, size)
			for i := range was {
				was[i] = 9
			}
			m := fresh(t, layout, was...)
			m.Load(0)
			x, ok := a.do(m, addr)
			if x != a.tells || ok != a.ok {
				t.Fatalf("%s at %d: %d, %v", a.name, addr, x, ok)
			}
			want := mem.Action{Kind: a.kind, Addr: addr, Old: 9, New: a.noted, Ok: a.wasSet}
			if m.Actions() != 2 || m.Last() != want {
				t.Fatalf("%s at %d: %d, %+v, want %+v", a.name, addr, m.Actions(), m.Last(), want)
			}
			was[addr] = a.word
			if got := all(m, size); !slices.Equal(got, was) {
				t.Fatalf("%s at %d: %v", a.name, addr, got)
			}
		}
	}
}

// P3.1: an action at an address that there isn't tells 0 and false, changes nothing, but counts and is noted.
func TestActionsNowhere(t *testing.T) {
	for _, addr := range append([]int{layout.Size(), layout.Size() + 1}, odd...) {
		for _, a := range actions() {
			m := fresh(t, layout, 1, 2, 3)
			before := m.Copy()
			x, ok := a.do(m, addr)
			if x != 0 || ok || m.Actions() != 1 || m.Last() != (mem.Action{Kind: a.kind, Addr: addr}) || !m.Same(before) {
				t.Errorf("%s at %d: %d, %v, %d, %+v", a.name, addr, x, ok, m.Actions(), m.Last())
			}
		}
		m := fresh(t, layout)
		if m.Cas(addr, 0, 0) || m.Cas(addr, 0, 1) || m.Actions() != 2 {
			t.Errorf("a Cas at %d finds a 0", addr)
		}
	}
}

// P3.1: words are modulo 2^64.
func TestAddWraps(t *testing.T) {
	m := fresh(t, layout, 0, math.MaxUint64)
	if m.Add(1, 1) != math.MaxUint64 || m.Peek(1) != 0 {
		t.Error(m.Peek(1))
	}
	if m.Add(1, 1<<63) != 0 || m.Add(1, 1<<63) != 1<<63 || m.Peek(1) != 0 {
		t.Error(m.Peek(1))
	}
	if m.Last() != (mem.Action{Kind: mem.Add, Addr: 1, Old: 1 << 63, Ok: true}) || m.Actions() != 3 {
		t.Error(m.Last(), m.Actions())
	}
}

// P3.1: who peeks does no action, and gets 0 where there is nothing.
func TestPeek(t *testing.T) {
	m := fresh(t, layout, 5, 6, 7)
	m.Store(3, 8)
	last := m.Last()
	if got := all(m, 5); !slices.Equal(got, []uint64{5, 6, 7, 8, 0}) {
		t.Error(got)
	}
	for _, addr := range append([]int{layout.Size()}, odd...) {
		if x := m.Peek(addr); x != 0 {
			t.Errorf("at %d is %d", addr, x)
		}
	}
	if m.Actions() != 1 || m.Last() != last {
		t.Error(m.Actions(), m.Last())
	}
}

// P3.1: a copy has the same layout and words, whatever was done, and is for itself.
func TestCopy(t *testing.T) {
	m := fresh(t, layout, 1, 2, 3)
	m.Add(4, 9)
	c := m.Copy()
	if c == m || !c.Same(m) || !m.Same(c) || c.Layout != layout || !slices.Equal(all(c, 5), []uint64{1, 2, 3, 0, 9}) {
		t.Fatal(all(c, 5))
	}
	if c.Actions() != 0 || c.Last() != (mem.Action{}) {
		t.Error(c.Actions(), c.Last())
	}
	c.Store(1, 77)
	if m.Peek(1) != 2 || m.Actions() != 1 || m.Last().Kind != mem.Add || m.Same(c) {
		t.Error("what is done to the copy is done to what it is of")
	}
	m.Store(2, 88)
	if c.Peek(2) != 3 || c.Actions() != 1 {
		t.Error("what is done to a memory is done to its copy")
	}
}

// P3.1: memories are the same by layout and words alone.
func TestSame(t *testing.T) {
	a, b := fresh(t, layout), fresh(t, layout)
	if !a.Same(a) || !a.Same(b) {
		t.Error("two new ones are unlike")
	}
	a.Load(1)
	a.Cas(5, 1, 2)
	a.Store(99, 1)
	if !a.Same(b) || !b.Same(a) {
		t.Error("actions that changed nothing make them unlike")
	}
	for addr := range layout.Size() {
		a.Store(addr, 1<<63)
		if a.Same(b) || b.Same(a) {
			t.Errorf("unlike words at %d aren't seen", addr)
		}
		a.Store(addr, 0)
	}
	if !a.Same(b) {
		t.Error("words that are back make them unlike")
	}
	wide, long := fresh(t, mem.Layout{Threads: 3, Nodes: 1}), fresh(t, mem.Layout{Threads: 1, Nodes: 6})
	if wide.Size() != long.Size() || wide.Same(long) || long.Same(wide) || wide.Same(a) {
		t.Error("unlike layouts aren't seen")
	}
}

// P3.1: of a memory that isn't there all is 0, false and nothing.
func TestNil(t *testing.T) {
	var none *mem.Mem
	for _, addr := range []int{-1, 0, 1, 12} {
		none.Store(addr, 1)
		if none.Load(addr) != 0 || none.Cas(addr, 0, 0) || none.Add(addr, 1) != 0 || none.Peek(addr) != 0 {
			t.Error(addr)
		}
	}
	if none.Actions() != 0 || none.Last() != (mem.Action{}) || none.Copy() != nil {
		t.Error(none.Actions(), none.Last(), none.Copy())
	}
	m := fresh(t, layout)
	if !none.Same(nil) || none.Same(m) || m.Same(none) || m.Same(nil) {
		t.Error("nil is the same as nil alone")
	}
	if n, ok := mem.Run(none, 9, &counting{ends: 3}); n != 3 || !ok {
		t.Error(n, ok)
	}
}

// P3.1: a Mem that wasn't made has no address, and doesn't panic.
func TestUnmade(t *testing.T) {
	m := new(mem.Mem)
	m.Store(0, 1)
	if m.Load(0) != 0 || m.Cas(1, 0, 0) || m.Add(2, 1) != 0 || m.Peek(0) != 0 || m.Actions() != 4 {
		t.Error(m.Actions(), m.Last())
	}
	if !m.Same(m.Copy()) || m.Same(nil) {
		t.Error("it isn't the same as its copy")
	}
}

// counting is a machine of some steps, each of which adds to word 1, and puts down its name.
type counting struct {
	name  int
	ends  int
	steps int
	log   *[]int
}

func (c *counting) Step(m *mem.Mem) bool {
	m.Add(1, 1)
	if c.log != nil {
		*c.log = append(*c.log, c.name)
	}
	c.steps++
	return c.steps == c.ends
}

// P3.1: machines are run one behind the other, to their ends, or as long as steps are left.
func TestRun(t *testing.T) {
	const forever = -1
	for _, c := range []struct {
		most int
		ends []int
		want []int // whose steps they are
		all  bool
	}{
		{10, nil, nil, true},
		{0, nil, nil, true},
		{-1, nil, nil, true},
		{0, []int{1}, nil, false},
		{-5, []int{1}, nil, false},
		{math.MinInt, []int{1, 1}, nil, false},
		{1, []int{1}, []int{0}, true},
		{1, []int{2}, []int{0}, false},
		{2, []int{2}, []int{0, 0}, true},
		{math.MaxInt, []int{2, 1, 3}, []int{0, 0, 1, 2, 2, 2}, true},
		{6, []int{2, 1, 3}, []int{0, 0, 1, 2, 2, 2}, true},
		{5, []int{2, 1, 3}, []int{0, 0, 1, 2, 2}, false},
		{3, []int{2, 1, 3}, []int{0, 0, 1}, false},
		{2, []int{2, 1, 3}, []int{0, 0}, false},
		{1, []int{2, 1, 3}, []int{0}, false},
		{4, []int{1, forever, 1}, []int{0, 1, 1, 1}, false},
	} {
		var log []int
		var l []mem.Machine
		for i, ends := range c.ends {
			l = append(l, &counting{name: i, ends: ends, log: &log})
		}
		m := fresh(t, layout)
		n, ok := mem.Run(m, c.most, l...)
		if n != len(c.want) || ok != c.all || !slices.Equal(log, c.want) || m.Actions() != n || m.Peek(1) != uint64(n) {
			t.Errorf("Run(%d, %v) = %d, %v; %v; %d actions", c.most, c.ends, n, ok, log, m.Actions())
		}
	}
}

// P3.1: a run that was cut off can be gone on with.
func TestRunGoesOn(t *testing.T) {
	m := fresh(t, layout)
	c := &counting{ends: 5}
	if n, ok := mem.Run(m, 3, c); n != 3 || ok {
		t.Error(n, ok)
	}
	if n, ok := mem.Run(m, 3, c); n != 2 || !ok || m.Peek(1) != 5 {
		t.Error(n, ok, m.Peek(1))
	}
}

// falling is a machine that panics with its second step.
type falling struct{ steps int }

func (f *falling) Step(m *mem.Mem) bool {
	if f.steps++; f.steps == 2 {
		panic("no step")
	}
	m.Add(1, 1)
	return false
}

// P3.1: a machine that can't be run never ends, and Run doesn't panic.
func TestRunOfNoMachine(t *testing.T) {
	var missing *counting
	for _, c := range []struct {
		x    mem.Machine
		want int
	}{{nil, 1}, {missing, 1}, {&falling{}, 2}} {
		m := fresh(t, layout)
		behind := &counting{ends: 1}
		if n, ok := mem.Run(m, 10, &counting{ends: 1}, c.x, behind); n != c.want || ok || behind.steps != 0 {
			t.Errorf("%T: %d, %v, %d", c.x, n, ok, behind.steps)
		}
	}
}
