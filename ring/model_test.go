package ring

import (
	"math"
	"slices"
	"testing"

	"lighter/api"
)

// plus is a sum that stays at the greatest int, or the least, and does not wrap round.
func plus(a, b int) int {
	switch {
	case a > 0 && b > math.MaxInt-a:
		return math.MaxInt
	case a < 0 && b < math.MinInt-a:
		return math.MinInt
	}
	return a + b
}

// mayBe is whether a ring may be, in the chapter's words.
func mayBe(r Ring) bool {
	size := 1 <= r.Size && r.Size <= 65536
	tail := 0 <= r.Tail && r.Tail <= r.Head
	return size && tail && r.Head < 1099511627776 && r.Head <= plus(r.Tail, r.Size)
}

// used is how many positions are taken of a ring that may be: they are counted.
func used(r Ring) int {
	n := 0
	for p := r.Tail; p < r.Head; p++ {
		n++
	}
	return n
}

// spans is the sectors of n positions from one on, gone through one by one: the sector 0 begins a span.
func spans(size, pos, n int) []api.Span {
	var l []api.Span
	for p := pos; p < pos+n; p++ {
		at := p % size
		if p == pos || at == 0 {
			l = append(l, api.Span{At: at})
		}
		l[len(l)-1].Len++
	}
	return l
}

// answer is what a call answers, in the chapter's words.
type answer struct {
	ring    Ring
	sectors []api.Span
	e       api.Errno
}

func pushed(r Ring, n int) answer {
	switch {
	case !mayBe(r) || n < 0 || plus(r.Head, n) >= 1099511627776:
		return answer{r, nil, api.ErrArg}
	case plus(used(r), n) > r.Size:
		return answer{r, nil, api.ErrFull}
	}
	return answer{Ring{Size: r.Size, Head: r.Head + n, Tail: r.Tail}, spans(r.Size, r.Head, n), api.OK}
}

func popped(r Ring, n int) answer {
	switch {
	case !mayBe(r) || n < 0:
		return answer{r, nil, api.ErrArg}
	case n > used(r):
		return answer{r, nil, api.ErrRange}
	}
	return answer{Ring{Size: r.Size, Head: r.Head, Tail: r.Tail + n}, spans(r.Size, r.Tail, n), api.OK}
}

func placed(r Ring, pos, n int) answer {
	if !mayBe(r) || pos < 0 || n < 0 || n > r.Size || pos >= 1099511627776 {
		return answer{r, nil, api.ErrArg}
	}
	return answer{r, spans(r.Size, pos, n), api.OK}
}

// held is whether positions are all taken: each one is asked.
func held(r Ring, pos, n int) bool {
	switch {
	case !mayBe(r) || n < 0:
		return false
	case n == 0:
		return r.Tail <= pos && pos <= r.Head
	case pos < r.Tail || n > r.Size:
		return false
	}
	for i := range n { // no sum wraps round: one that is not taken ends it
		if pos+i >= r.Head {
			return false
		}
	}
	return true
}

func (a answer) is(b answer) bool {
	return a.ring == b.ring && a.e == b.e && slices.Equal(a.sectors, b.sectors)
}

// gotPush is what Push answers; so are gotPop and gotAt of theirs.
func gotPush(r Ring, n int) answer {
	next, l, e := r.Push(n)
	return answer{next, l, e}
}

func gotPop(r Ring, n int) answer {
	next, l, e := r.Pop(n)
	return answer{next, l, e}
}

func gotAt(r Ring, pos, n int) answer {
	l, e := r.At(pos, n)
	return answer{r, l, e}
}

// checkRing holds what a ring tells of itself against the model.
func checkRing(t *testing.T, r Ring) {
	t.Helper()
	e, taken, free := api.ErrArg, 0, 0
	if mayBe(r) {
		e, taken = api.OK, used(r)
		free = r.Size - taken
	}
	if got := r.Check(); got != e {
		t.Errorf("Check of %v: %v; want %v", r, got, e)
	}
	if got := r.Used(); got != taken {
		t.Errorf("Used of %v: %d; want %d", r, got, taken)
	}
	if got := r.Free(); got != free {
		t.Errorf("Free of %v: %d; want %d", r, got, free)
	}
}

// checkMoves holds Push and Pop against the model.
func checkMoves(t *testing.T, r Ring, n int) {
	t.Helper()
	if got, want := gotPush(r, n), pushed(r, n); !got.is(want) {
		t.Errorf("Push of %d on %v: %v; want %v", n, r, got, want)
	}
	if got, want := gotPop(r, n), popped(r, n); !got.is(want) {
		t.Errorf("Pop of %d off %v: %v; want %v", n, r, got, want)
	}
}

// checkPlaces holds At and Holds against the model.
func checkPlaces(t *testing.T, r Ring, pos, n int) {
	t.Helper()
	if got, want := gotAt(r, pos, n), placed(r, pos, n); !got.is(want) {
		t.Errorf("At of %d, %d in %v: %v; want %v", pos, n, r, got, want)
	}
	if got, want := r.Holds(pos, n), held(r, pos, n); got != want {
		t.Errorf("Holds of %d, %d in %v: %v; want %v", pos, n, r, got, want)
	}
}

// rolls is a row of numbers that looks like chance, and is the same each time.
type rolls uint64

func (r *rolls) below(n int) int {
	*r = *r*6364136223846793005 + 1442695040888963407
	return int(uint64(*r)>>33) % n
}
