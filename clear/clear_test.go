package clear_test

import (
	"math"
	"slices"
	"testing"

	"sherpa/api"
	"sherpa/clear"
	"sherpa/desc"
	"sherpa/mem"
	"sherpa/trace"
	"sherpa/word"
)

const (
	lastVer = 1<<18 - 1
	// The bits that no word, and no descriptor, has.
	noWords = uint64(math.MaxUint64 - (1<<43 - 1))
	noDescs = uint64(math.MaxUint64 - (1<<62 - 1))
)

var layout = mem.Layout{Threads: 2, Nodes: 3}

// wrong is layouts that may not be. Their threads and nodes are those of layout, as far as they can be.
var wrong = []mem.Layout{
	{},
	{Threads: 2},
	{Nodes: 3},
	{Threads: 9, Nodes: 3},
	{Threads: 31, Nodes: 3},
	{Threads: -1, Nodes: 3},
	{Threads: 2, Nodes: 201},
	{Threads: 2, Nodes: -1},
	{Threads: math.MaxInt, Nodes: 3},
	{Threads: math.MinInt, Nodes: math.MaxInt},
}

// fresh is memory.
func fresh(t *testing.T, l mem.Layout) *mem.Mem {
	t.Helper()
	m, e := mem.New(l)
	if m == nil || e != api.OK {
		t.Fatal(m, e)
	}
	return m
}

// bits are those of a word, or of a descriptor, that has to fit.
func bits(x uint64, e api.Errno) uint64 {
	if e != api.OK {
		panic(e)
	}
	return x
}

// follow runs a machine to its end, and tells what it did.
func follow(t *testing.T, m *mem.Mem, x mem.Machine) []mem.Action {
	t.Helper()
	did, ok := trace.Of(m, 4, x)
	if !ok {
		t.Fatalf("no end, or a step that isn't one action, behind %v", did)
	}
	return did
}

// expected is what a machine does that is alone. It works on the bits alone.
func expected(m *mem.Mem, addr int) []mem.Action {
	if m.Peek(addr)>>20&31 == 0 || int(m.Peek(addr)>>20&31) > m.Threads {
		return []mem.Action{trace.Load(addr, m.Peek(addr))}
	}
	is := m.Copy()
	x, at := is.Peek(addr), is.Desc(int(is.Peek(addr)>>20&31)-1)
	d, ver := is.Peek(at), x>>25&lastVer
	did := []mem.Action{trace.Load(addr, x), trace.Load(at, d)}
	if d>>49&1 == 0 && d>>50&3 == 1 && int(d>>12&511) == addr && d>>21&lastVer == ver {
		won := d&^noDescs + 1<<49
		did = append(did, trace.Cas(at, d, d, won))
		is.Store(at, won)
	}
	freed := x&(1<<20-1) | (ver+1)&lastVer<<25
	return append(did, trace.Cas(addr, is.Peek(addr), x, freed))
}

// after is what memory is behind actions.
func after(m *mem.Mem, did []mem.Action) *mem.Mem {
	is := m.Copy()
	for _, a := range did {
		if a.Kind == mem.Cas && a.Ok {
			is.Store(a.Addr, a.New)
		}
	}
	return is
}

// check runs a machine alone, and holds it against what is expected.
func check(t *testing.T, m *mem.Mem, addr int) {
	t.Helper()
	want := expected(m, addr)
	end := after(m, want)
	if got := follow(t, m, clear.New(m.Layout, addr)); !slices.Equal(got, want) || !m.Same(end) {
		t.Fatalf("%+v, address %d: %v, not %v", m.Layout, addr, got, want)
	}
}

// P10.1: a word that is claimed by thread 0, whose descriptor is Proposed for it: four steps; then the descriptor is Won, and the word is free.
func TestExample(t *testing.T) {
	m := fresh(t, layout)
	w := word.Word{Key: 5, Next: 2, Mark: true, Claim: 1, Ver: 7}
	d := desc.Desc{Att: 3, Addr: 1, Ver: 7, Next: 2, Mark: true, Status: desc.Proposed, Val: 9}
	m.Store(1, bits(word.Put(w)))
	m.Store(layout.Desc(0), bits(desc.Put(d)))
	won := desc.Desc{Att: 3, Addr: 1, Ver: 7, Next: 2, Mark: true, Status: desc.Won, Val: 9}
	freed := word.Word{Key: 5, Next: 2, Mark: true, Ver: 8}
	want := []mem.Action{
		trace.Load(1, bits(word.Put(w))),
		trace.Load(layout.Desc(0), bits(desc.Put(d))),
		trace.Cas(layout.Desc(0), bits(desc.Put(d)), bits(desc.Put(d)), bits(desc.Put(won))),
		trace.Cas(1, bits(word.Put(w)), bits(word.Put(w)), bits(word.Put(freed))),
	}
	if got := follow(t, m, clear.New(layout, 1)); !slices.Equal(got, want) {
		t.Error(got)
	}
	if desc.Get(m.Peek(layout.Desc(0))) != won || word.Get(m.Peek(1)) != freed {
		t.Error(desc.Get(m.Peek(layout.Desc(0))), word.Get(m.Peek(1)))
	}
	if got := follow(t, m, clear.New(layout, 1)); !slices.Equal(got, []mem.Action{trace.Load(1, bits(word.Put(freed)))}) {
		t.Error("once more:", got)
	}
}

// P10.1: a word without a claim, or with that of a thread that there isn't, is loaded, and that is all; each thread's claim is taken away, with its own descriptor.
func TestClaims(t *testing.T) {
	for threads := 1; threads <= api.MaxThreads; threads++ {
		l := mem.Layout{Threads: threads, Nodes: 3}
		for claim := range 32 {
			m := fresh(t, l)
			w := word.Word{Key: 8, Next: 3, Claim: claim, Ver: 6}
			m.Store(2, bits(word.Put(w)))
			for u := range threads {
				m.Store(l.Desc(u), bits(desc.Put(desc.Desc{Att: u, Addr: 2, Ver: 6, Next: 3, Status: desc.Proposed})))
			}
			before, got := m.Copy(), follow(t, m, clear.New(l, 2))
			if claim == 0 || claim > threads {
				if !slices.Equal(got, []mem.Action{trace.Load(2, bits(word.Put(w)))}) || !m.Same(before) {
					t.Errorf("claim %d, %d threads: %v", claim, threads, got)
				}
				continue
			}
			before.Store(2, bits(word.Put(word.Word{Key: 8, Next: 3, Ver: 7})))
			before.Store(l.Desc(claim-1), bits(desc.Put(desc.Desc{Att: claim - 1, Addr: 2, Ver: 6, Next: 3, Status: desc.Won})))
			if len(got) != 4 || got[1].Addr != l.Desc(claim-1) || !m.Same(before) {
				t.Errorf("claim %d, %d threads: %v", claim, threads, got)
			}
		}
	}
}

// P10.1: a descriptor that isn't Proposed, or is so of another address or version, is let be, and the word is freed all the same; what else is in it doesn't count.
func TestDescriptors(t *testing.T) {
	for status := range 8 {
		for _, addr := range []int{1, 0, 2, 3, 257, 511} {
			for _, ver := range []int{40, 0, 39, 41, 40 + 1<<17, lastVer} {
				for _, rest := range []desc.Desc{{}, {Att: 4095, Next: 511, Mark: true, Val: 1023}, {Att: 1, Next: 2, Val: 40}} {
					d := rest
					d.Addr, d.Ver, d.Status = addr, ver, status
					m := fresh(t, layout)
					m.Store(1, bits(word.Put(word.Word{Key: 5, Next: 2, Claim: 2, Ver: 40})))
					m.Store(layout.Desc(1), bits(desc.Put(d)))
					is := status == desc.Proposed && addr == 1 && ver == 40
					got := follow(t, m, clear.New(layout, 1))
					if (len(got) == 4) != is || (len(got) == 3) == is || word.Get(m.Peek(1)) != (word.Word{Key: 5, Next: 2, Ver: 41}) {
						t.Fatalf("%+v: %v", d, got)
					}
					if is {
						d.Status = desc.Won
					}
					if m.Peek(layout.Desc(1)) != bits(desc.Put(d)) {
						t.Fatalf("%+v is %+v", d, desc.Get(m.Peek(layout.Desc(1))))
					}
				}
			}
		}
	}
}

// P10.1: of a word the key, next and mark stay, whatever they are; a version is one more, and 0 behind the last one.
func TestWords(t *testing.T) {
	for _, key := range []int{0, 1, 999, 1023} {
		for _, next := range []int{0, 1, 200, 511} {
			for _, mark := range []bool{false, true} {
				for _, ver := range []int{0, 1, 511, 1 << 17, lastVer - 1, lastVer} {
					m := fresh(t, layout)
					m.Store(3, bits(word.Put(word.Word{Key: key, Next: next, Mark: mark, Claim: 1, Ver: ver})))
					m.Store(layout.Desc(0), bits(desc.Put(desc.Desc{Addr: 3, Ver: ver, Status: desc.Proposed})))
					did := follow(t, m, clear.New(layout, 3))
					freed := word.Word{Key: key, Next: next, Mark: mark, Ver: (ver + 1) % (lastVer + 1)}
					if len(did) != 4 || m.Peek(3) != bits(word.Put(freed)) || desc.Get(m.Peek(layout.Desc(0))).Status != desc.Won {
						t.Fatalf("%+v: %v", freed, did)
					}
				}
			}
		}
	}
}

// P10.1: bits that aren't a word's, or a descriptor's, don't count, and are not written; but each Cas asks for the very bits that were loaded.
func TestForeignBits(t *testing.T) {
	for _, more := range []uint64{0, 1 << 43, 1 << 62, 1 << 63, noWords} {
		for _, moreDesc := range []uint64{0, 1 << 62, 1 << 63, noDescs} {
			for _, status := range []int{desc.Proposed, desc.Lost} {
				m := fresh(t, layout)
				w, d := word.Word{Key: 5, Claim: 1, Ver: 3}, desc.Desc{Addr: 1, Ver: 3, Status: status}
				m.Store(1, bits(word.Put(w))|more)
				m.Store(layout.Desc(0), bits(desc.Put(d))|moreDesc)
				check(t, m, 1)
				if m.Peek(1) != bits(word.Put(word.Word{Key: 5, Ver: 4})) {
					t.Error(m.Peek(1))
				}
				left := bits(desc.Put(d)) | moreDesc
				if status == desc.Proposed {
					left = bits(desc.Put(d.With(desc.Won)))
				}
				if m.Peek(layout.Desc(0)) != left {
					t.Error(m.Peek(layout.Desc(0)), left)
				}
			}
		}
	}
	// Foreign bits alone are no claim.
	m := fresh(t, layout)
	m.Store(1, noWords)
	check(t, m, 1)
}

// P10.1: a word that has become another one by the last step stays as it is, though only bits that aren't its own are others.
func TestWordThatChanges(t *testing.T) {
	w := word.Word{Key: 5, Next: 2, Claim: 1, Ver: 3}
	was := bits(word.Put(w))
	others := []uint64{was | 1<<43, was | 1<<63, was + 1, bits(word.Put(w.Marked())), bits(word.Put(w.Free())), bits(word.Put(w.Claimed(1, 2, false))), 0}
	for when := 1; when <= 3; when++ {
		for _, x := range others {
			m, c := fresh(t, layout), clear.New(layout, 1)
			d := bits(desc.Put(desc.Desc{Addr: 1, Ver: 3, Status: desc.Proposed}))
			m.Store(1, was)
			m.Store(layout.Desc(0), d)
			for range when {
				c.Step(m)
			}
			m.Store(1, x)
			got := follow(t, m, c)
			if len(got) != 4-when || got[len(got)-1] != trace.Cas(1, x, was, bits(word.Put(w.Free()))) || m.Peek(1) != x {
				t.Errorf("%d behind step %d: %v", x, when, got)
			}
			if m.Peek(layout.Desc(0)) != bits(desc.Put(desc.Desc{Addr: 1, Ver: 3, Status: desc.Won})) {
				t.Errorf("%d behind step %d: the descriptor isn't Won", x, when)
			}
		}
	}
}

// P10.1: a descriptor that has become another one behind its Load stays as it is, and the word is freed all the same.
func TestDescriptorThatChanges(t *testing.T) {
	d := desc.Desc{Att: 2, Addr: 1, Ver: 3, Next: 2, Status: desc.Proposed}
	was := bits(desc.Put(d))
	later := d.Next1()
	later.Addr, later.Ver, later.Next, later.Status = 1, 3, 2, desc.Proposed
	others := []uint64{was | 1<<62, was | 1<<63, 0}
	for _, x := range []desc.Desc{d.With(desc.Won), d.With(desc.Lost), d.Next1(), d.Ended(api.Res{Ok: true}), later} {
		others = append(others, bits(desc.Put(x)))
	}
	for _, x := range others {
		m, c := fresh(t, layout), clear.New(layout, 1)
		w := word.Word{Key: 5, Next: 2, Claim: 1, Ver: 3}
		m.Store(1, bits(word.Put(w)))
		m.Store(layout.Desc(0), was)
		c.Step(m)
		c.Step(m)
		m.Store(layout.Desc(0), x)
		want := []mem.Action{
			trace.Cas(layout.Desc(0), x, was, bits(desc.Put(d.With(desc.Won)))),
			trace.Cas(1, bits(word.Put(w)), bits(word.Put(w)), bits(word.Put(w.Free()))),
		}
		if got := follow(t, m, c); !slices.Equal(got, want) || m.Peek(layout.Desc(0)) != x {
			t.Errorf("%+v: %v", desc.Get(x), got)
		}
	}
}

// P10.1: what a machine goes by is what it loaded, not what was there when it was made, nor what comes behind.
func TestWhatWasLoaded(t *testing.T) {
	m, c := fresh(t, layout), clear.New(layout, 1)
	if m.Actions() != 0 {
		t.Error("New does an action")
	}
	m.Store(1, bits(word.Put(word.Word{Claim: 2, Ver: 3})))
	m.Store(layout.Desc(0), bits(desc.Put(desc.Desc{Addr: 1, Ver: 3, Status: desc.Proposed})))
	m.Store(layout.Desc(1), bits(desc.Put(desc.Desc{Addr: 1, Ver: 4, Status: desc.Proposed})))
	c.Step(m)
	// Of the word that was loaded it was thread 1's claim, at version 3.
	m.Store(1, bits(word.Put(word.Word{Claim: 1, Ver: 4})))
	before := m.Copy()
	want := []mem.Action{
		trace.Load(layout.Desc(1), m.Peek(layout.Desc(1))),
		trace.Cas(1, m.Peek(1), bits(word.Put(word.Word{Claim: 2, Ver: 3})), bits(word.Put(word.Word{Ver: 4}))),
	}
	if got := follow(t, m, c); !slices.Equal(got, want) || !m.Same(before) {
		t.Error(got)
	}
}

// P10.1: any address may be cleared, one of a descriptor, too; where there is none, nothing is claimed.
func TestAddresses(t *testing.T) {
	for addr := range layout.Size() {
		for claim := range 4 {
			for _, proposed := range []bool{false, true} {
				m := fresh(t, layout)
				d := desc.Desc{Addr: addr, Ver: 9, Status: desc.Won}
				if proposed {
					d.Status = desc.Proposed
				}
				m.Store(layout.Desc(0), bits(desc.Put(d)))
				m.Store(layout.Desc(1), bits(desc.Put(d)))
				m.Store(addr, bits(word.Put(word.Word{Key: 3, Claim: claim, Ver: 9})))
				check(t, m, addr)
			}
		}
	}
	for _, addr := range []int{-1, -2, layout.Size(), layout.Size() + 1, 511, 512, math.MaxInt, math.MinInt} {
		m := fresh(t, layout)
		for at := range layout.Size() {
			m.Store(at, bits(word.Put(word.Word{Claim: 1, Ver: 9})))
		}
		before := m.Copy()
		got := follow(t, m, clear.New(layout, addr))
		if !slices.Equal(got, []mem.Action{{Kind: mem.Load, Addr: addr}}) || !m.Same(before) {
			t.Errorf("%d: %v", addr, got)
		}
	}
}

// P10.1: a word that is the descriptor of its own claim is another word as soon as that is Won, so it isn't freed.
func TestWordThatIsItsDescriptor(t *testing.T) {
	at := layout.Desc(1)
	// As a word, these bits have claim 2 and that same version.
	d := desc.Desc{Addr: at, Ver: 0x11111, Next: 4, Status: desc.Proposed}
	if w := word.Get(bits(desc.Put(d))); w.Claim != 2 || w.Ver != d.Ver {
		t.Fatal(w)
	}
	m := fresh(t, layout)
	m.Store(at, bits(desc.Put(d)))
	check(t, m, at)
	if desc.Get(m.Peek(at)) != d.With(desc.Won) {
		t.Error(desc.Get(m.Peek(at)))
	}
}

// chance tells numbers, always the same ones.
type chance uint64

func (c *chance) below(n int) int {
	*c = *c*6364136223846793005 + 1442695040888963407
	return int(uint64(*c) >> 33 % uint64(n))
}

// word is any word, with few claims and versions.
func (c *chance) word(threads int) word.Word {
	return word.Word{Key: c.below(1024), Next: c.below(512), Mark: c.below(2) == 1, Claim: c.below(threads + 3), Ver: lastVer - c.below(3)}
}

// desc is any descriptor that may have to do with a word at an address: often it differs from that in one number alone.
func (c *chance) desc(addr int, w word.Word) desc.Desc {
	d := desc.Desc{Att: c.below(4096), Addr: addr, Ver: w.Ver, Next: c.below(512), Mark: c.below(2) == 1, Status: desc.Proposed, Val: c.below(1024)}
	switch c.below(4) {
	case 0:
		d.Addr ^= 1 << c.below(9)
	case 1:
		d.Ver ^= 1 << c.below(18)
	case 2:
		d.Status ^= 1 << c.below(3)
	}
	return d
}

// fill fills memory with words, and with descriptors that have to do with one of them.
func (c *chance) fill(m *mem.Mem, about int) {
	for addr := range m.Size() {
		m.Store(addr, bits(word.Put(c.word(m.Threads)))|uint64(c.below(4))<<(43+c.below(20)))
	}
	for u := range m.Threads {
		m.Store(m.Desc(u), bits(desc.Put(c.desc(about, word.Get(m.Peek(about)))))|uint64(c.below(4))<<62)
	}
}

// P10.1: of all kinds of memories a machine that is alone does what the list says, whatever the words are.
func TestAlone(t *testing.T) {
	c := chance(1)
	lengths := map[int]int{}
	for range 3000 {
		m := fresh(t, mem.Layout{Threads: 1 + c.below(8), Nodes: 1 + c.below(6)})
		about := c.below(m.Size())
		c.fill(m, about)
		for _, addr := range []int{about, c.below(m.Size()), about} {
			lengths[len(expected(m, addr))]++
			check(t, m, addr)
		}
	}
	if lengths[1] < 100 || lengths[3] < 100 || lengths[4] < 100 {
		t.Error(lengths)
	}
}

// orders is all ways in which machines can take turns, with so many steps of each.
func orders(left ...int) [][]int {
	var all [][]int
	for i := range left {
		if left[i] == 0 {
			continue
		}
		rest := slices.Clone(left)
		rest[i]--
		for _, o := range orders(rest...) {
			all = append(all, append([]int{i}, o...))
		}
	}
	if all == nil {
		return [][]int{nil}
	}
	return all
}

// P10.1: however several machines clear one address, the claim is taken away once, and ahead of that it is known that it was made.
func TestTogether(t *testing.T) {
	w := word.Word{Key: 5, Next: 2, Claim: 2, Ver: 3}
	d := desc.Desc{Att: 1, Addr: 1, Ver: 3, Next: 2, Status: desc.Proposed}
	for _, order := range append(orders(4, 4), orders(4, 4, 4)...) {
		m := fresh(t, layout)
		m.Store(1, bits(word.Put(w)))
		m.Store(layout.Desc(1), bits(desc.Put(d)))
		c := []*clear.Clear{clear.New(layout, 1), clear.New(layout, 1), clear.New(layout, 1)}
		ended := make([]bool, len(c))
		for _, i := range order {
			if !ended[i] {
				ended[i] = c[i].Step(m)
			}
			_, claimed := clear.Claimed(m, 1)
			if known := desc.Get(m.Peek(layout.Desc(1))) == d.With(desc.Won); !claimed && !known {
				t.Fatal(order, "the claim is gone, and nobody knows that it was made")
			}
			if ended[i] && claimed {
				t.Fatal(order, "a machine has ended, and the claim is still there")
			}
		}
		if m.Peek(1) != bits(word.Put(w.Free())) || m.Peek(layout.Desc(1)) != bits(desc.Put(d.With(desc.Won))) {
			t.Fatal(order, word.Get(m.Peek(1)), desc.Get(m.Peek(layout.Desc(1))))
		}
	}
}

// P10.1: machines that clear two addresses, claimed by one thread, leave both free: only what is proposed is Won.
func TestTwoAddresses(t *testing.T) {
	d := desc.Desc{Att: 1, Addr: 2, Ver: 3, Next: 2, Status: desc.Proposed}
	for _, order := range orders(4, 4) {
		m := fresh(t, layout)
		m.Store(1, bits(word.Put(word.Word{Claim: 1, Ver: 3})))
		m.Store(2, bits(word.Put(word.Word{Claim: 1, Ver: 3})))
		m.Store(layout.Desc(0), bits(desc.Put(d)))
		c := []*clear.Clear{clear.New(layout, 1), clear.New(layout, 2)}
		steps, ended := [2]int{}, [2]bool{}
		for _, i := range order {
			if !ended[i] {
				ended[i] = c[i].Step(m)
				steps[i]++
			}
		}
		if steps != [2]int{3, 4} || !ended[0] || !ended[1] || desc.Get(m.Peek(layout.Desc(0))) != d.With(desc.Won) {
			t.Fatal(order, steps, ended)
		}
		if free := bits(word.Put(word.Word{Ver: 4})); m.Peek(1) != free || m.Peek(2) != free {
			t.Fatal(order, word.Get(m.Peek(1)), word.Get(m.Peek(2)))
		}
	}
}

// P10.1: a machine goes by the layout that it was given, though the memory has another one.
func TestOtherLayout(t *testing.T) {
	small := mem.Layout{Threads: 1, Nodes: 3}
	m := fresh(t, layout)
	m.Store(1, bits(word.Put(word.Word{Claim: 2, Ver: 3})))
	before := m.Copy()
	if got := follow(t, m, clear.New(small, 1)); len(got) != 1 || !m.Same(before) {
		t.Error("claim of a thread that isn't in its layout:", got)
	}
	m.Store(1, bits(word.Put(word.Word{Claim: 1, Ver: 3})))
	m.Store(small.Desc(0), bits(desc.Put(desc.Desc{Addr: 1, Ver: 3, Status: desc.Proposed})))
	if got := follow(t, m, clear.New(small, 1)); len(got) != 4 || got[1].Addr != small.Desc(0) || got[2].Addr != small.Desc(0) {
		t.Error(got)
	}
}

// P10.1: of a layout that isn't right there are no threads: the address is loaded, and nothing changes.
func TestWrongLayouts(t *testing.T) {
	for _, l := range wrong {
		for claim := range 32 {
			m := fresh(t, layout)
			for addr := range layout.Size() {
				m.Store(addr, bits(word.Put(word.Word{Claim: claim, Ver: 9})))
			}
			before := m.Copy()
			if got := follow(t, m, clear.New(l, 2)); !slices.Equal(got, []mem.Action{trace.Load(2, m.Peek(2))}) || !m.Same(before) {
				t.Errorf("%+v: %v", l, got)
			}
		}
	}
}

// P10.1: behind its end no machine changes anything any more, though the address is claimed again.
func TestBehindTheEnd(t *testing.T) {
	for _, w := range []word.Word{{}, {Claim: 1, Ver: 3}, {Claim: 1, Ver: 4}, {Claim: 31}} {
		m, c := fresh(t, layout), clear.New(layout, 1)
		m.Store(0, 7)
		m.Store(1, bits(word.Put(w)))
		m.Store(layout.Desc(0), bits(desc.Put(desc.Desc{Addr: 1, Ver: 3, Status: desc.Proposed})))
		follow(t, m, c)
		m.Store(1, bits(word.Put(word.Word{Claim: 1, Ver: 3})))
		m.Store(layout.Desc(0), bits(desc.Put(desc.Desc{Addr: 1, Ver: 3, Status: desc.Proposed})))
		before := m.Copy()
		for range 6 {
			if !c.Step(m) || !m.Same(before) {
				t.Fatalf("%+v: %v", w, m.Last())
			}
		}
	}
}

// P10.1: a word is claimed by the thread whose number is one less than its claim, if there is that thread; who asks does no action.
func TestClaimed(t *testing.T) {
	for threads := 1; threads <= api.MaxThreads; threads++ {
		l := mem.Layout{Threads: threads, Nodes: 3}
		for claim := range 32 {
			for _, more := range []uint64{0, 1 << 43, noWords} {
				for _, w := range []word.Word{{}, {Key: 1023, Next: 511, Mark: true, Ver: lastVer}} {
					w.Claim = claim
					words := make([]uint64, l.Size())
					for addr := range words {
						words[addr] = bits(word.Put(w)) | more
					}
					m, _ := mem.New(l, words...)
					before := m.Copy()
					for addr := range l.Size() {
						u, ok := clear.Claimed(m, addr)
						if is := claim >= 1 && claim <= threads; ok != is || is && u != claim-1 || !is && u != 0 {
							t.Fatalf("claim %d, %d threads, address %d: %d, %v", claim, threads, addr, u, ok)
						}
					}
					if m.Actions() != 0 || m.Last() != (mem.Action{}) || !m.Same(before) {
						t.Fatal("who asks does an action")
					}
				}
			}
		}
	}
}

// P10.1: only the address counts that is asked for, not what a descriptor proposes; where there is none nobody claims anything.
func TestNotClaimed(t *testing.T) {
	m := fresh(t, layout)
	m.Store(2, bits(word.Put(word.Word{Claim: 2})))
	m.Store(layout.Desc(0), bits(desc.Put(desc.Desc{Addr: 1, Status: desc.Proposed})))
	if u, ok := clear.Claimed(m, 2); u != 1 || !ok {
		t.Error(u, ok)
	}
	for _, addr := range []int{0, 1, 3, layout.Head(0), -1, -2, layout.Size(), layout.Size() + 2, math.MaxInt, math.MinInt} {
		if u, ok := clear.Claimed(m, addr); u != 0 || ok {
			t.Errorf("address %d: %d, %v", addr, u, ok)
		}
	}
}

// P10.1: over no memory, over one that wasn't made, and of a machine that wasn't made, nothing panics.
func TestNoMemory(t *testing.T) {
	for _, m := range []*mem.Mem{nil, new(mem.Mem)} {
		for _, x := range []mem.Machine{clear.New(layout, 1), clear.New(mem.Layout{}, -1), new(clear.Clear)} {
			if steps, ok := mem.Run(m, 10, x); steps != 1 || !ok {
				t.Errorf("%d steps, %v", steps, ok)
			}
		}
		if u, ok := clear.Claimed(m, 1); u != 0 || ok {
			t.Error(u, ok)
		}
	}
	m := fresh(t, layout)
	m.Store(0, bits(word.Put(word.Word{Claim: 1})))
	before := m.Copy()
	if got := follow(t, m, new(clear.Clear)); !slices.Equal(got, []mem.Action{trace.Load(0, m.Peek(0))}) || !m.Same(before) {
		t.Error(got)
	}
	c := clear.New(layout, 1)
	m.Store(1, bits(word.Put(word.Word{Claim: 1})))
	c.Step(m)
	if steps, ok := mem.Run(nil, 10, c); steps != 2 || !ok {
		t.Error("the memory is gone:", steps, ok)
	}
}

// P10.1: a machine has the layout's own functions.
func TestEmbedding(t *testing.T) {
	c := clear.New(layout, 1)
	if c.Layout != layout || c.Desc(1) != layout.Desc(1) || c.Size() != layout.Size() || !c.Node(3) {
		t.Error(c.Layout)
	}
}
