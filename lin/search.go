package lin

import (
	"sherpa/api"
	"sherpa/hist"
	"sherpa/spec"
)

// group is some calls, each at the bit of its number (there is room for api.MaxCalls).
type group uint32

// has tells whether a call is among them.
func (g group) has(id int) bool { return g>>id&1 == 1 }

// with is these and one more.
func (g group) with(id int) group { return g | 1<<id }

// covers tells whether all of others are among them.
func (g group) covers(x group) bool { return x&^g == 0 }

// state is what all that can come behind an order hangs on: which calls stand in it, and the items behind it.
type state struct {
	stand group
	items string
}

// stateOf is the state of items in a list.
func stateOf(stand group, items []int) state {
	text := make([]rune, len(items))
	for i, item := range items {
		text[i] = rune(item)
	}
	return state{stand: stand, items: string(text)}
}

// search looks for the least legal order of calls.
type search struct {
	calls []hist.Call        // those that may stand in it, the others are none of its business
	must  group              // which have to stand in it
	takes group              // which of these are Takes
	ahead []group            // of each call, which have to stand ahead of it
	dead  map[state]struct{} // what led nowhere
	pairs map[group][]group  // what inPairs told
}

// newSearch is a search among calls that are right for a shape.
func newSearch(shape int, calls []hist.Call) *search {
	s := &search{
		ahead: make([]group, len(calls)),
		dead:  map[state]struct{}{},
		pairs: map[group][]group{},
	}
	for _, call := range calls {
		if may(shape, call) {
			s.calls = append(s.calls, call)
		}
	}
	for _, call := range s.calls {
		if must(call) {
			s.note(call)
		}
	}
	return s
}

// note notes that a call has to stand in an order, and ahead of whom.
func (s *search) note(call hist.Call) {
	s.must = s.must.with(call.Id)
	if call.Op.Kind == api.Take {
		s.takes = s.takes.with(call.Id)
	}
	for _, x := range s.calls {
		if call.Before(x.Span) {
			s.ahead[x.Id] = s.ahead[x.Id].with(call.Id)
		}
	}
}

// free tells whether one of the calls can be the next one behind those that stand, whatever it is told.
func (s *search) free(id int, stand group) bool {
	return !stand.has(id) && stand.covers(s.ahead[id])
}

// goOn is the least legal order that begins with a legal one's beginning; the meaning behind that, and its calls, are handed in, too.
func (s *search) goOn(meant *spec.Spec, stand group, order ...int) ([]int, bool) {
	if stand.covers(s.must) {
		return order, true
	}
	here := stateOf(stand, meant.Items())
	if _, ok := s.dead[here]; ok || !s.hopes(meant, stand) {
		return nil, false
	}
	for _, call := range s.calls {
		if !s.free(call.Id, stand) {
			continue
		}
		next := meant.Copy()
		if !tells(next, call) {
			continue
		}
		n := len(order)
		if found, ok := s.goOn(next, stand.with(call.Id), append(order[:n:n], call.Id)...); ok {
			return found, true
		}
	}
	s.dead[here] = struct{}{}
	return nil, false
}

// hopes tells whether an order leads somewhere, as far as that is known without trying.
// Of a set nothing is known: what stands fixes its items, but for what is pending, so there is little to try.
// Of the others the items' order hangs on that of the calls, so there is far too much to try; but all is known.
func (s *search) hopes(meant *spec.Spec, stand group) bool {
	switch meant.Shape {
	case api.Queue:
		return s.served(stand, meant.Items())
	case api.Stack:
		return s.popped(stand, meant.Items())
	}
	return true
}

// takes tells whether a call is a Take that may be told an item.
func takes(call hist.Call, item int) bool {
	return call.Op.Kind == api.Take && suits(call, api.Res{Ok: true, Val: item})
}

// misses tells whether a call is a Take that was told that there is no item. (A pending one that would be is best left out.)
func misses(call hist.Call) bool {
	return call.Op.Kind == api.Take && must(call) && suits(call, api.Res{})
}
