package trace_test

import (
	"math"
	"slices"
	"testing"

	"sherpa/api"
	"sherpa/mem"
	"sherpa/trace"
)

// script is a machine that does these, one with each step.
type script []func(m *mem.Mem)

// Step does the next one.
func (s *script) Step(m *mem.Mem) bool {
	do := (*s)[0]
	*s = (*s)[1:]
	do(m)
	return len(*s) == 0
}

// The actions that are named are those that memory notes.
func TestActions(t *testing.T) {
	m, e := mem.New(mem.Layout{Threads: 1, Nodes: 1}, 0, 5, 6, math.MaxUint64)
	if e != api.OK {
		t.Fatal(e)
	}
	s := &script{
		func(m *mem.Mem) { m.Load(1) },
		func(m *mem.Mem) { m.Store(1, 7) },
		func(m *mem.Mem) { m.Cas(2, 6, 8) },
		func(m *mem.Mem) { m.Cas(2, 6, 9) },
		func(m *mem.Mem) { m.Add(3, 2) },
	}
	want := []mem.Action{trace.Load(1, 5), trace.Store(1, 5, 7), trace.Cas(2, 6, 6, 8), trace.Cas(2, 8, 6, 9), trace.Add(3, math.MaxUint64, 2)}
	if got, ok := trace.Of(m, 5, s); !slices.Equal(got, want) || !ok {
		t.Error(got, ok)
	}
}

// A machine that hasn't ended by then, or whose step isn't one action, is found out.
func TestWrongMachines(t *testing.T) {
	load := func(m *mem.Mem) { m.Load(0) }
	twice := func(m *mem.Mem) { load(m); load(m) }
	none := func(*mem.Mem) {}
	for _, c := range []struct {
		script
		most, did int
	}{
		{script{load, load, load}, 2, 2},
		{script{load}, 0, 0},
		{script{load}, -1, 0},
		{script{load, twice}, 9, 1},
		{script{none, load}, 9, 0},
		{script{load, none}, 9, 1},
	} {
		m, _ := mem.New(mem.Layout{Threads: 1, Nodes: 1})
		if did, ok := trace.Of(m, c.most, &c.script); len(did) != c.did || ok {
			t.Errorf("at most %d: %v, %v", c.most, did, ok)
		}
	}
}
