package lin

import (
	"maps"
	"slices"

	"sherpa/hist"
)

// sunk stands for an item that is never taken any more, and for all that lies under it. No key is that.
const sunk = -1

// popped tells of a Stack with items whether all Takes that have to can still come to stand.
//
// What comes next is a Put whose item is taken again, with all that comes meanwhile (see inPairs), or one whose item isn't, or a Take of what was there.
func (s *search) popped(stand group, items []int) bool {
	if stand.covers(s.takes) {
		return true
	}
	here := stateOf(stand, items)
	if _, ok := s.dead[here]; ok {
		return false
	}
	for _, then := range s.inPairs(stand) {
		if s.popped(then, items) {
			return true
		}
	}
	for _, call := range s.calls {
		if s.free(call.Id, stand) && s.pops(call, stand.with(call.Id), items) {
			return true
		}
	}
	s.dead[here] = struct{}{}
	return false
}

// pops tells whether a call can be the next one, with which these stand, and the others behind it.
func (s *search) pops(call hist.Call, then group, items []int) bool {
	switch {
	case puts(call):
		return s.popped(then, []int{sunk})
	case len(items) == 0:
		return misses(call) && s.popped(then, nil)
	}
	return items[0] != sunk && takes(call, items[0]) && s.popped(then, items[1:])
}

// inPairs is which calls can stand behind these, a Put, all that is put and taken meanwhile, and the Take of the Put's item.
// What lies under that item doesn't matter, so it hangs on the calls that stand alone.
func (s *search) inPairs(stand group) []group {
	if known, ok := s.pairs[stand]; ok {
		return known
	}
	found := map[group]struct{}{}
	for _, put := range s.calls {
		if !puts(put) || !s.free(put.Id, stand) {
			continue
		}
		for between := range s.level(stand.with(put.Id)) {
			for _, take := range s.calls {
				if s.free(take.Id, between) && takes(take, put.Op.Key) {
					found[between.with(take.Id)] = struct{}{}
				}
			}
		}
	}
	s.pairs[stand] = slices.Sorted(maps.Keys(found))
	return s.pairs[stand]
}

// level is which calls can stand behind these and as many pairs as there may be, one behind the other.
func (s *search) level(stand group) map[group]struct{} {
	found := map[group]struct{}{stand: {}}
	next := []group{stand}
	for len(next) > 0 {
		pairs := s.inPairs(next[0])
		next = next[1:]
		for _, then := range pairs {
			if _, ok := found[then]; !ok {
				found[then] = struct{}{}
				next = append(next, then)
			}
		}
	}
	return found
}
