package lin

import (
	"sherpa/hist"
	"sherpa/spec"
)

// Hopes is what the search hopes of a legal order's beginning.
func Hopes(shape int, h *hist.Hist, begun ...int) bool {
	meant, _ := spec.New(shape)
	calls := h.Calls()
	var stand group
	for _, id := range begun {
		meant.Do(calls[id].Op)
		stand = stand.with(id)
	}
	return newSearch(shape, calls).hopes(meant, stand)
}
