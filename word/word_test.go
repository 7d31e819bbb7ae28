package word_test

import (
	"math"
	"slices"
	"testing"

	"sherpa/api"
	"sherpa/word"
)

// edges is words with each field at its ends, and in between.
func edges() []word.Word {
	var l []word.Word
	for _, key := range []int{0, 1, 5, 511, 512, 999, 1023} {
		for _, next := range []int{0, 1, 200, 255, 256, 511} {
			for _, mark := range []bool{false, true} {
				for _, claim := range []int{0, 1, 8, 16, 31} {
					for _, ver := range []int{0, 1, 131071, 131072, 262142, 262143} {
						l = append(l, word.Word{Key: key, Next: next, Mark: mark, Claim: claim, Ver: ver})
					}
				}
			}
		}
	}
	return l
}

// P1.1: each field has its place.
func TestPutLaysFields(t *testing.T) {
	for _, c := range []struct {
		w    word.Word
		want uint64
	}{
		{word.Word{}, 0},
		{word.Word{Key: 5, Next: 1}, 1029},
		{word.Word{Key: 1}, 1},
		{word.Word{Key: 1023}, 1<<10 - 1},
		{word.Word{Next: 1}, 1 << 10},
		{word.Word{Next: 511}, 1<<19 - 1<<10},
		{word.Word{Mark: true}, 1 << 19},
		{word.Word{Claim: 1}, 1 << 20},
		{word.Word{Claim: 31}, 1<<25 - 1<<20},
		{word.Word{Ver: 1}, 1 << 25},
		{word.Word{Ver: 262143}, 1<<43 - 1<<25},
		{word.Word{Key: 1023, Next: 511, Mark: true, Claim: 31, Ver: 262143}, 1<<43 - 1},
	} {
		if x, e := word.Put(c.w); x != c.want || e != api.OK {
			t.Errorf("Put(%+v) = %d, %d, want %d", c.w, x, e, c.want)
		}
		if w := word.Get(c.want); w != c.w {
			t.Errorf("Get(%d) = %+v, want %+v", c.want, w, c.w)
		}
	}
}

// P1.1: what fits comes back, and unlike words have unlike bits.
func TestPutKeepsWordsApart(t *testing.T) {
	seen := map[uint64]word.Word{}
	for _, w := range edges() {
		x, e := word.Put(w)
		if e != api.OK || word.Get(x) != w || !word.Right(x) {
			t.Fatalf("Put(%+v) = %d, %d; Get: %+v; Right: %v", w, x, e, word.Get(x), word.Right(x))
		}
		if other, ok := seen[x]; ok {
			t.Fatalf("%+v and %+v both have %d", w, other, x)
		}
		seen[x] = w
	}
}

// P1.1: a number that doesn't fit is refused, whichever it is.
func TestPutRefusesWhatDoesNotFit(t *testing.T) {
	for _, out := range []struct {
		most int
		make func(n int) word.Word
	}{
		{1023, func(n int) word.Word { return word.Word{Key: n} }},
		{511, func(n int) word.Word { return word.Word{Next: n} }},
		{31, func(n int) word.Word { return word.Word{Claim: n} }},
		{262143, func(n int) word.Word { return word.Word{Key: 7, Next: 7, Mark: true, Claim: 7, Ver: n} }},
	} {
		for _, n := range []int{out.most + 1, 2 * (out.most + 1), math.MaxInt, -1, -out.most - 1, math.MinInt} {
			if x, e := word.Put(out.make(n)); x != 0 || e != api.ErrRange {
				t.Errorf("Put(%+v) = %d, %d, want 0, ErrRange", out.make(n), x, e)
			}
		}
		if _, e := word.Put(out.make(out.most)); e != api.OK {
			t.Errorf("Put(%+v): %d", out.make(out.most), e)
		}
	}
}

// P1.1: bits beyond a word's own aren't right, and are gone over.
func TestForeignBits(t *testing.T) {
	want := word.Word{Key: 1023, Next: 1, Mark: true, Claim: 31, Ver: 262143}
	x, _ := word.Put(want)
	for i := range 64 {
		if got := word.Right(1 << i); got != (i < 43) {
			t.Errorf("Right(1<<%d) = %v", i, got)
		}
		if i < 43 {
			continue
		}
		if word.Right(x | 1<<i) {
			t.Errorf("a word with bit %d is right", i)
		}
		if w := word.Get(x | 1<<i); w != want {
			t.Errorf("with bit %d: %+v, want %+v", i, w, want)
		}
	}
	if word.Right(math.MaxUint64) || !word.Right(0) || !word.Right(1<<43-1) {
		t.Error(word.Right(math.MaxUint64), word.Right(0), word.Right(1<<43-1))
	}
	if w := word.Get(math.MaxUint64); w != (word.Word{Key: 1023, Next: 511, Mark: true, Claim: 31, Ver: 262143}) {
		t.Error(w)
	}
}

// P1.1: what is made of a word differs from it in just what is said.
func TestChanges(t *testing.T) {
	for _, w := range edges() {
		was := w
		ver := w.Ver + 1
		if w.Ver == 262143 {
			ver = 0
		}
		for _, next := range []int{0, 9, 511} {
			want := word.Word{Key: was.Key, Next: next, Mark: was.Mark, Claim: was.Claim, Ver: ver}
			if got := w.Link(next); got != want {
				t.Fatalf("%+v.Link(%d) = %+v", was, next, got)
			}
			for _, mark := range []bool{false, true} {
				want := word.Word{Key: was.Key, Next: next, Mark: mark, Claim: 8, Ver: was.Ver}
				if got := w.Claimed(7, next, mark); got != want {
					t.Fatalf("%+v.Claimed(7, %d, %v) = %+v", was, next, mark, got)
				}
			}
		}
		if got := w.Marked(); got != (word.Word{Key: was.Key, Next: was.Next, Mark: true, Claim: was.Claim, Ver: ver}) {
			t.Fatalf("%+v.Marked() = %+v", was, got)
		}
		if got := w.Free(); got != (word.Word{Key: was.Key, Next: was.Next, Mark: was.Mark, Ver: ver}) {
			t.Fatalf("%+v.Free() = %+v", was, got)
		}
		if w != was {
			t.Fatalf("%+v has become %+v", was, w)
		}
	}
}

// P1.1: the changes don't look at whether numbers fit.
func TestChangesOfWhatDoesNotFit(t *testing.T) {
	w := word.Word{Key: -1, Next: 512, Claim: 99, Ver: 262144}
	if got := w.Link(-7); got != (word.Word{Key: -1, Next: -7, Claim: 99, Ver: 262145}) {
		t.Error(got)
	}
	if got := w.Marked(); got != (word.Word{Key: -1, Next: 512, Mark: true, Claim: 99, Ver: 262145}) {
		t.Error(got)
	}
	if got := w.Claimed(-1, 1000, true); got != (word.Word{Key: -1, Next: 1000, Mark: true, Ver: 262144}) {
		t.Error(got)
	}
	if got := w.Claimed(31, 0, false); got != (word.Word{Key: -1, Claim: 32, Ver: 262144}) {
		t.Error(got)
	}
	if got := w.Free(); got != (word.Word{Key: -1, Next: 512, Ver: 262145}) {
		t.Error(got)
	}
	if got := (word.Word{Ver: -1}).Free(); got != (word.Word{}) {
		t.Error(got)
	}
}

// P1.1: fields begin one behind the other, and those below 0 are as 0.
func TestBits(t *testing.T) {
	for _, c := range []struct{ widths, want []int }{
		{nil, []int{0}},
		{[]int{}, []int{0}},
		{[]int{7}, []int{0, 7}},
		{[]int{0}, []int{0, 0}},
		{[]int{-1}, []int{0, 0}},
		{[]int{math.MinInt, 3, math.MinInt}, []int{0, 0, 3, 3}},
		{[]int{10, 9, 1, 5, 18}, []int{0, 10, 19, 20, 25, 43}},
		{[]int{100, 0, 0, 200}, []int{0, 100, 100, 100, 300}},
	} {
		if got := word.Bits(c.widths...); !slices.Equal(got, c.want) {
			t.Errorf("Bits(%v) = %v, want %v", c.widths, got, c.want)
		}
	}
}

// P1.1, rule 2: the answer shares nothing with the widths, nor with another answer.
func TestBitsSharesNothing(t *testing.T) {
	room := []int{10, -9, 1, 77}
	first := word.Bits(room[:3]...)
	if !slices.Equal(room, []int{10, -9, 1, 77}) {
		t.Error(room)
	}
	first[0], first[3] = 5, 5
	if got := word.Bits(room[:3]...); !slices.Equal(got, []int{0, 10, 10, 11}) || !slices.Equal(room, []int{10, -9, 1, 77}) {
		t.Error(got, room)
	}
}
