// Package trace is no layer: it tells what a machine does, action by action, for the layers' tests.
package trace

import "sherpa/mem"

// Of runs a machine to its end, at most so many steps: what it did, and whether it has ended, and did one action with each step.
func Of(m *mem.Mem, most int, x mem.Machine) ([]mem.Action, bool) {
	var did []mem.Action
	for len(did) < most {
		before := m.Actions()
		ended := x.Step(m)
		if m.Actions() != before+1 {
			return did, false
		}
		if did = append(did, m.Last()); ended {
			return did, true
		}
	}
	return did, false
}

// Load is that a word was loaded.
func Load(addr int, x uint64) mem.Action {
	return mem.Action{Kind: mem.Load, Addr: addr, Old: x, New: x, Ok: true}
}

// Store is that a word, which was another one, was stored.
func Store(addr int, was, x uint64) mem.Action {
	return mem.Action{Kind: mem.Store, Addr: addr, Old: was, New: x, Ok: true}
}

// Cas is that a word was to become another one, if it was the old one.
func Cas(addr int, was, old, x uint64) mem.Action {
	return mem.Action{Kind: mem.Cas, Addr: addr, Old: was, New: x, Ok: was == old}
}

// Add is that a word has become more by a number.
func Add(addr int, was, n uint64) mem.Action {
	return mem.Action{Kind: mem.Add, Addr: addr, Old: was, New: was + n, Ok: true}
}
