package lin

import "sherpa/hist"

// served tells of a Queue with items whether all Takes that have to can still come to stand.
//
// The Takes are gone through in their order, and each Put comes to stand with the Take of its item: so the order of items needn't be kept.
// The Puts of what isn't taken come behind all others.
//
// So a Put may come to stand behind a Take ahead of which it has to stand. It can be moved there, with the Puts between:
// one of these could only be held back by a Take that ended before it began. But the Put itself had ended by then, so that one would stand behind it.
// Only of a Take that misses nothing can be moved ahead (see closed).
func (s *search) served(stand group, items []int) bool {
	if stand.covers(s.takes) {
		return true
	}
	here := stateOf(stand, items)
	if _, ok := s.dead[here]; ok {
		return false
	}
	for _, call := range s.calls {
		if !stand.has(call.Id) && stand.covers(s.ahead[call.Id]&s.takes) && s.serves(call, stand, items) {
			return true
		}
	}
	s.dead[here] = struct{}{}
	return false
}

// serves tells whether a call can be the next Take, with its item's Put, if that doesn't stand, and the others behind it.
func (s *search) serves(take hist.Call, stand group, items []int) bool {
	then := stand.with(take.Id)
	if len(items) > 0 {
		return takes(take, items[0]) && s.served(then, items[1:])
	}
	if misses(take) {
		return s.closed(then) && s.served(then, nil)
	}
	for _, put := range s.calls {
		if puts(put) && s.free(put.Id, stand) && takes(take, put.Op.Key) && s.served(then.with(put.Id), nil) {
			return true
		}
	}
	return false
}

// closed tells whether with each call all stand that have to stand ahead of it: then nothing has been put that wasn't taken.
func (s *search) closed(stand group) bool {
	for _, call := range s.calls {
		if stand.has(call.Id) && !stand.covers(s.ahead[call.Id]) {
			return false
		}
	}
	return true
}
