package ring

import (
	"math"
	"slices"
	"testing"

	"lighter/api"
)

const lastPos = api.MaxSeq - 1

func ring(size, head, tail int) Ring { return Ring{Size: size, Head: head, Tail: tail} }

func list(l ...api.Span) []api.Span { return l }

func span(at, n int) api.Span { return api.Span{At: at, Len: n} }

// is fails unless a call answered what it should.
func is(t *testing.T, what string, got, want answer) {
	t.Helper()
	if !got.is(want) {
		t.Errorf("%s: %v; want %v", what, got, want)
	}
}

// The chapter's example.
func TestExample(t *testing.T) {
	r, e := New(4)
	if e != api.OK {
		t.Fatal(e)
	}
	is(t, "Push", gotPush(r, 3), answer{ring(4, 3, 0), list(span(0, 3)), api.OK})
	is(t, "Pop", gotPop(ring(4, 3, 0), 2), answer{ring(4, 3, 2), list(span(0, 2)), api.OK})
	is(t, "Push", gotPush(ring(4, 3, 2), 3), answer{ring(4, 6, 2), list(span(3, 1), span(0, 2)), api.OK})
	if n := ring(4, 6, 2).Free(); n != 0 {
		t.Error(n)
	}
}

// P9.1: New of each size that may be is a ring of which nothing is taken.
func TestNew(t *testing.T) {
	for size := 1; size <= 65536; size++ {
		r, e := New(size)
		if r != ring(size, 0, 0) || e != api.OK || r.Used() != 0 || r.Free() != size || r.Check() != api.OK {
			t.Fatal(size, r, e)
		}
	}
}

// P9.1: New of another size is ErrArg, and no ring.
func TestNewRefuses(t *testing.T) {
	for _, size := range []int{0, -1, -2, -65536, 65537, 65538, 2 * 65536, 1<<32 + 1, api.MaxSeq, math.MaxInt, math.MinInt, math.MinInt + 1} {
		if r, e := New(size); r != (Ring{}) || e != api.ErrArg {
			t.Error(size, r, e)
		}
	}
}

// P9.1: Check, Used and Free, at the edges of a ring that may be.
func TestCheck(t *testing.T) {
	for _, c := range []struct {
		r          Ring
		e          api.Errno
		used, free int
	}{
		{ring(1, 0, 0), api.OK, 0, 1}, {ring(1, 1, 0), api.OK, 1, 0}, {ring(1, lastPos, lastPos-1), api.OK, 1, 0}, {ring(1, lastPos, lastPos), api.OK, 0, 1},
		{ring(65536, 65536, 0), api.OK, 65536, 0}, {ring(65536, lastPos, lastPos-65536), api.OK, 65536, 0}, {ring(65536, lastPos, lastPos), api.OK, 0, 65536},
		{ring(4, 7, 5), api.OK, 2, 2}, {ring(4, 9, 5), api.OK, 4, 0}, {ring(4, 5, 5), api.OK, 0, 4},
		{Ring{}, api.ErrArg, 0, 0}, {ring(0, 0, 0), api.ErrArg, 0, 0}, {ring(-1, 0, 0), api.ErrArg, 0, 0}, {ring(65537, 3, 1), api.ErrArg, 0, 0}, {ring(math.MaxInt, 3, 1), api.ErrArg, 0, 0},
		{ring(4, 10, 5), api.ErrArg, 0, 0}, {ring(1, 2, 0), api.ErrArg, 0, 0}, {ring(65536, 65537, 0), api.ErrArg, 0, 0}, {ring(65536, lastPos, 0), api.ErrArg, 0, 0},
		{ring(4, 5, 6), api.ErrArg, 0, 0}, {ring(4, 0, 1), api.ErrArg, 0, 0}, {ring(4, 0, -1), api.ErrArg, 0, 0}, {ring(4, -1, -1), api.ErrArg, 0, 0}, {ring(4, -1, 0), api.ErrArg, 0, 0}, {ring(4, -1, -2), api.ErrArg, 0, 0},
		{ring(4, api.MaxSeq, lastPos), api.ErrArg, 0, 0}, {ring(4, api.MaxSeq, api.MaxSeq), api.ErrArg, 0, 0}, {ring(4, math.MaxInt, math.MaxInt), api.ErrArg, 0, 0},
		{ring(4, math.MaxInt, math.MinInt), api.ErrArg, 0, 0}, {ring(4, 3, math.MinInt), api.ErrArg, 0, 0}, {ring(4, math.MinInt, math.MaxInt), api.ErrArg, 0, 0}, {ring(4, math.MinInt, math.MinInt), api.ErrArg, 0, 0},
	} {
		if e, n, free := c.r.Check(), c.r.Used(), c.r.Free(); e != c.e || n != c.used || free != c.free {
			t.Errorf("%v: %v, %d, %d; want %v, %d, %d", c.r, e, n, free, c.e, c.used, c.free)
		}
		checkRing(t, c.r)
	}
}

// P9.2: At is of positions that are taken and of others, to the last one, and beyond it behind that.
func TestAt(t *testing.T) {
	const most = 65536
	for _, c := range []struct {
		r      Ring
		pos, n int
		want   []api.Span
	}{
		{ring(4, 6, 2), 2, 4, list(span(2, 2), span(0, 2))}, {ring(4, 6, 2), 0, 4, list(span(0, 4))}, {ring(4, 6, 2), 3, 1, list(span(3, 1))}, {ring(4, 6, 2), 4, 1, list(span(0, 1))},
		{ring(4, 6, 2), 3, 2, list(span(3, 1), span(0, 1))}, {ring(4, 6, 2), 2, 2, list(span(2, 2))}, {ring(4, 6, 2), 99, 4, list(span(3, 1), span(0, 3))}, {ring(4, 0, 0), 5, 0, nil}, {ring(4, 0, 0), lastPos, 0, nil},
		{ring(4, 0, 0), lastPos, 1, list(span(3, 1))}, {ring(4, 0, 0), lastPos, 4, list(span(3, 1), span(0, 3))}, {ring(7, 0, 0), lastPos, 7, list(span(1, 6), span(0, 1))}, // 2 to the 40th leaves 2, divided by 7
		{ring(1, 0, 0), 0, 1, list(span(0, 1))}, {ring(1, 0, 0), lastPos, 1, list(span(0, 1))},
		{ring(most, 0, 0), 0, most, list(span(0, most))}, {ring(most, 0, 0), lastPos, most, list(span(most-1, 1), span(0, most-1))}, {ring(most, 0, 0), 1, most - 1, list(span(1, most-1))},
	} {
		is(t, "At", gotAt(c.r, c.pos, c.n), answer{c.r, c.want, api.OK})
		checkPlaces(t, c.r, c.pos, c.n)
	}
}

// P9.2: At of what may not be.
func TestAtRefuses(t *testing.T) {
	r := ring(4, 6, 2)
	for _, c := range []struct{ pos, n int }{
		{-1, 0}, {-1, 1}, {-1, 4}, {-4, 2}, {math.MinInt, 0}, {math.MinInt, 1}, {0, -1}, {5, -1}, {5, math.MinInt}, {math.MinInt, math.MinInt}, {0, 5}, {lastPos, 5}, {0, math.MaxInt}, {5, math.MaxInt},
		{api.MaxSeq, 0}, {api.MaxSeq, 1}, {api.MaxSeq + 4, 0}, {math.MaxInt, 0}, {math.MaxInt, 4}, {math.MaxInt, math.MaxInt},
	} {
		is(t, "At", gotAt(r, c.pos, c.n), answer{r, nil, api.ErrArg})
		checkPlaces(t, r, c.pos, c.n)
	}
}

// P9.2: Push is at the edges as told; ErrArg comes ahead of ErrFull; with an error the ring is as it is.
func TestPush(t *testing.T) {
	const most = 65536
	for _, c := range []struct {
		r    Ring
		n    int
		want answer
	}{
		{ring(4, 6, 2), 0, answer{ring(4, 6, 2), nil, api.OK}}, {ring(4, 6, 2), 1, answer{ring(4, 6, 2), nil, api.ErrFull}}, {ring(4, 6, 5), 3, answer{ring(4, 9, 5), list(span(2, 2), span(0, 1)), api.OK}},
		{ring(4, 6, 5), 2, answer{ring(4, 8, 5), list(span(2, 2)), api.OK}}, {ring(4, 8, 5), 1, answer{ring(4, 9, 5), list(span(0, 1)), api.OK}}, {ring(4, 6, 5), 4, answer{ring(4, 6, 5), nil, api.ErrFull}},
		{ring(4, 0, 0), 4, answer{ring(4, 4, 0), list(span(0, 4)), api.OK}}, {ring(4, 0, 0), 5, answer{ring(4, 0, 0), nil, api.ErrFull}}, {ring(4, 6, 5), -1, answer{ring(4, 6, 5), nil, api.ErrArg}}, {ring(4, 6, 5), math.MinInt, answer{ring(4, 6, 5), nil, api.ErrArg}},
		{ring(4, lastPos, lastPos), 0, answer{ring(4, lastPos, lastPos), nil, api.OK}}, {ring(4, lastPos, lastPos), 1, answer{ring(4, lastPos, lastPos), nil, api.ErrArg}}, {ring(4, lastPos-2, lastPos-2), 2, answer{ring(4, lastPos, lastPos-2), list(span(1, 2)), api.OK}},
		{ring(4, lastPos-2, lastPos-2), 3, answer{ring(4, lastPos-2, lastPos-2), nil, api.ErrArg}}, {ring(4, lastPos-2, lastPos-6), 2, answer{ring(4, lastPos-2, lastPos-6), nil, api.ErrFull}}, {ring(4, lastPos-2, lastPos-6), 3, answer{ring(4, lastPos-2, lastPos-6), nil, api.ErrArg}},
		{ring(4, 6, 2), api.MaxSeq - 7, answer{ring(4, 6, 2), nil, api.ErrFull}}, {ring(4, 6, 2), api.MaxSeq - 6, answer{ring(4, 6, 2), nil, api.ErrArg}}, {ring(4, 6, 2), math.MaxInt, answer{ring(4, 6, 2), nil, api.ErrArg}}, {ring(4, 0, 0), lastPos, answer{ring(4, 0, 0), nil, api.ErrFull}},
		{ring(most, 3, 3), most, answer{ring(most, most+3, 3), list(span(3, most-3), span(0, 3)), api.OK}}, {ring(most, 3, 3), most + 1, answer{ring(most, 3, 3), nil, api.ErrFull}},
	} {
		is(t, "Push", gotPush(c.r, c.n), c.want)
		is(t, "the model's Push", pushed(c.r, c.n), c.want)
	}
}

// P9.2: Pop is at the edges as told; with an error the ring is as it is.
func TestPop(t *testing.T) {
	const most = 65536
	for _, c := range []struct {
		r    Ring
		n    int
		want answer
	}{
		{ring(4, 6, 2), 0, answer{ring(4, 6, 2), nil, api.OK}}, {ring(4, 6, 2), 2, answer{ring(4, 6, 4), list(span(2, 2)), api.OK}}, {ring(4, 6, 2), 3, answer{ring(4, 6, 5), list(span(2, 2), span(0, 1)), api.OK}}, {ring(4, 6, 2), 4, answer{ring(4, 6, 6), list(span(2, 2), span(0, 2)), api.OK}},
		{ring(4, 6, 2), 5, answer{ring(4, 6, 2), nil, api.ErrRange}}, {ring(4, 6, 5), 2, answer{ring(4, 6, 5), nil, api.ErrRange}}, {ring(4, 6, 6), 0, answer{ring(4, 6, 6), nil, api.OK}}, {ring(4, 6, 6), 1, answer{ring(4, 6, 6), nil, api.ErrRange}},
		{ring(4, 6, 2), -1, answer{ring(4, 6, 2), nil, api.ErrArg}}, {ring(4, 6, 2), math.MinInt, answer{ring(4, 6, 2), nil, api.ErrArg}}, {ring(4, 6, 2), math.MaxInt, answer{ring(4, 6, 2), nil, api.ErrRange}}, {ring(4, 6, 2), api.MaxSeq, answer{ring(4, 6, 2), nil, api.ErrRange}},
		{ring(4, lastPos, lastPos-2), 2, answer{ring(4, lastPos, lastPos), list(span(1, 2)), api.OK}}, {ring(4, lastPos, lastPos-2), 3, answer{ring(4, lastPos, lastPos-2), nil, api.ErrRange}},
		{ring(most, most+3, 3), most, answer{ring(most, most+3, most+3), list(span(3, most-3), span(0, 3)), api.OK}},
	} {
		is(t, "Pop", gotPop(c.r, c.n), c.want)
		is(t, "the model's Pop", popped(c.r, c.n), c.want)
	}
}

// P9.2: Holds, at its edges; of no positions it is from Tail to Head.
func TestHolds(t *testing.T) {
	for _, c := range []struct {
		r      Ring
		pos, n int
		want   bool
	}{
		{ring(4, 6, 2), 2, 4, true}, {ring(4, 6, 2), 2, 5, false}, {ring(4, 6, 2), 1, 4, false}, {ring(4, 6, 2), 1, 1, false}, {ring(4, 6, 2), 3, 4, false}, {ring(4, 6, 2), 5, 1, true}, {ring(4, 6, 2), 6, 1, false}, {ring(4, 6, 2), 3, 2, true},
		{ring(4, 6, 2), 1, 0, false}, {ring(4, 6, 2), 2, 0, true}, {ring(4, 6, 2), 4, 0, true}, {ring(4, 6, 2), 6, 0, true}, {ring(4, 6, 2), 7, 0, false}, {ring(4, 6, 6), 6, 0, true}, {ring(4, 6, 6), 5, 0, false}, {ring(4, 6, 6), 7, 0, false}, {ring(4, 6, 6), 6, 1, false},
		{ring(4, 6, 2), 3, -1, false}, {ring(4, 6, 2), 6, -4, false}, {ring(4, 6, 2), 2, math.MinInt, false}, {ring(4, 6, 2), -1, 0, false}, {ring(4, 6, 2), -1, 4, false}, {ring(4, 0, 0), 0, 0, true}, {ring(4, 0, 0), -1, 0, false}, {ring(4, 0, 0), -1, 1, false},
		{ring(4, 6, 2), 3, math.MaxInt, false}, {ring(4, 6, 2), math.MaxInt, 0, false}, {ring(4, 6, 2), math.MaxInt, 3, false}, {ring(4, 6, 2), math.MaxInt, math.MaxInt, false}, {ring(4, 6, 2), math.MinInt, math.MinInt, false}, {ring(4, 6, 2), math.MinInt, math.MaxInt, false}, {ring(4, 6, 2), math.MinInt, -math.MaxInt, false},
		{ring(4, lastPos, lastPos-4), lastPos - 4, 4, true}, {ring(4, lastPos, lastPos-4), lastPos, 0, true}, {ring(4, lastPos, lastPos-4), lastPos, 1, false}, {ring(4, lastPos, lastPos-4), api.MaxSeq, 0, false},
		{Ring{}, 0, 0, false}, {ring(4, 7, 2), 3, 1, false}, {ring(4, 7, 2), 3, 0, false}, {ring(65537, 7, 2), 3, 1, false}, {ring(4, 2, 6), 3, 1, false}, {ring(4, 3, -1), 0, 1, false}, {ring(4, api.MaxSeq, lastPos), lastPos, 0, false}, {ring(4, api.MaxSeq, lastPos), lastPos, 1, false},
	} {
		if got := c.r.Holds(c.pos, c.n); got != c.want {
			t.Errorf("Holds of %d, %d in %v: %v", c.pos, c.n, c.r, got)
		}
		if got := held(c.r, c.pos, c.n); got != c.want {
			t.Errorf("the model's Holds of %d, %d in %v: %v", c.pos, c.n, c.r, got)
		}
	}
}

// P9.1, P9.2: all calls of all small rings, those that may not be among them.
func TestSmallRings(t *testing.T) {
	for size := -1; size <= 5; size++ {
		for head := -2; head <= 11; head++ {
			for tail := -2; tail <= 12; tail++ {
				r := ring(size, head, tail)
				checkRing(t, r)
				for n := -2; n <= 7; n++ {
					checkMoves(t, r, n)
					for pos := -2; pos <= 13; pos++ {
						checkPlaces(t, r, pos, n)
					}
				}
			}
		}
	}
}

// P9.1, P9.2: all calls of small rings near the last position.
func TestLastPositions(t *testing.T) {
	for _, size := range []int{1, 2, 3, 5, 65536, 65537} {
		for head := lastPos - 7; head <= api.MaxSeq+1; head++ {
			for tail := head - 6; tail <= head+1; tail++ {
				r := ring(size, head, tail)
				checkRing(t, r)
				for n := -1; n <= 7; n++ {
					checkMoves(t, r, n)
					for pos := tail - 1; pos <= head+2; pos++ {
						checkPlaces(t, r, pos, n)
					}
				}
			}
		}
	}
}

// P9.1, P9.2, R1: no call panics or wraps round, whatever it is given.
func TestFarNumbers(t *testing.T) {
	far := []int{math.MinInt, math.MinInt + 1, math.MinInt / 2, -api.MaxSeq, -65536, -1, 0, 1, 3, 65535, 65536, 65537, lastPos - 1, lastPos, api.MaxSeq, math.MaxInt / 2, math.MaxInt - 1, math.MaxInt}
	for _, size := range far {
		for _, head := range far {
			for _, tail := range far {
				r := ring(size, head, tail)
				checkRing(t, r)
				if r.Check() != api.OK && size != 3 {
					continue
				}
				for _, n := range far {
					checkMoves(t, r, n)
				}
			}
		}
	}
	for _, r := range []Ring{ring(1, 0, 0), ring(3, 1, 0), ring(3, 65537, 65535), ring(3, lastPos, lastPos-1), ring(65536, 65536, 1), ring(0, 1, 0), ring(3, 1, math.MinInt), ring(3, math.MaxInt, math.MaxInt)} {
		for _, pos := range far {
			for _, n := range far {
				checkPlaces(t, r, pos, n)
			}
		}
	}
}

// eachSector is the sectors of spans, one by one.
func eachSector(l []api.Span) []int {
	var sectors []int
	for _, s := range l {
		for at := s.At; at < s.End(); at++ {
			sectors = append(sectors, at)
		}
	}
	return sectors
}

// checkQueue fails unless a ring's taken positions stand for just these sectors, in this order, each of them once.
func checkQueue(t *testing.T, r Ring, queue []int) {
	t.Helper()
	if r.Check() != api.OK || r.Used() != len(queue) || r.Used()+r.Free() != r.Size {
		t.Fatalf("%v: %v, %d used, %d free; want %d used", r, r.Check(), r.Used(), r.Free(), len(queue))
	}
	l, e := r.At(r.Tail, r.Used())
	if !slices.Equal(eachSector(l), queue) || e != api.OK || !r.Holds(r.Tail, r.Used()) {
		t.Fatalf("%v: %v, %v; want %v", r, l, e, queue)
	}
	once := slices.Compact(slices.Sorted(slices.Values(queue)))
	if len(once) != len(queue) || len(once) > 0 && (once[0] < 0 || once[len(once)-1] >= r.Size) {
		t.Fatalf("%v: %v", r, queue)
	}
}

// P9.3: on long ways sectors that are taken at once are different ones, and what is pushed is popped as the same sectors, in the same order.
func TestLongWays(t *testing.T) {
	done := map[api.Errno]int{}
	for seed := range 300 {
		roll := rolls(seed)
		r, e := New(1 + roll.below(9))
		if e != api.OK {
			t.Fatal(e)
		}
		if seed%3 == 0 { // a long time later: the last position comes on the way
			r.Head = lastPos - roll.below(200)
			r.Tail = r.Head
		}
		var queue []int
		for range 200 {
			n := roll.below(7) - 1
			checkMoves(t, r, n)
			if roll.below(2) == 0 {
				got := gotPush(r, n)
				queue = append(queue, eachSector(got.sectors)...)
				r = got.ring
				done[got.e]++
			} else {
				got := gotPop(r, n)
				gone := eachSector(got.sectors)
				if len(gone) > len(queue) || !slices.Equal(gone, queue[:len(gone)]) {
					t.Fatal(r, gone, queue)
				}
				queue = queue[len(gone):]
				r = got.ring
				done[got.e]++
			}
			checkQueue(t, r, queue)
		}
	}
	for _, e := range []api.Errno{api.OK, api.ErrArg, api.ErrFull, api.ErrRange} {
		if done[e] < 1000 {
			t.Errorf("the ways come by %v only %d times", e, done[e])
		}
	}
}

// P9.3: the greatest ring goes round as the small ones do.
func TestGreatestRing(t *testing.T) {
	r, _ := New(api.MaxSectors)
	for i, n := range []int{api.MaxSectors, 1, 65535, 40000, api.MaxSectors, 65535} {
		filled := gotPush(r, n)
		emptied := gotPop(filled.ring, n)
		if filled.e != api.OK || emptied.e != api.OK || !slices.Equal(filled.sectors, emptied.sectors) || emptied.ring.Used() != 0 {
			t.Fatal(i, filled, emptied)
		}
		checkQueue(t, filled.ring, eachSector(filled.sectors))
		r = emptied.ring
	}
}

// P9.2, R2: a ring is a value that no call turns, and the sectors that are answered are the caller's.
func TestAnswersAreTheCallers(t *testing.T) {
	r := ring(4, 6, 3)
	for range 3 {
		at, _ := r.At(3, 3)
		next, pushed, _ := r.Push(1)
		left, gone, _ := r.Pop(2)
		if r != ring(4, 6, 3) || next != ring(4, 7, 3) || left != ring(4, 6, 5) {
			t.Fatal(r, next, left)
		}
		if !slices.Equal(at, list(span(3, 1), span(0, 2))) || !slices.Equal(pushed, list(span(2, 1))) || !slices.Equal(gone, list(span(3, 1), span(0, 1))) {
			t.Fatal(at, pushed, gone)
		}
		for _, l := range [][]api.Span{at, pushed, gone} {
			clear(l[:cap(l)])
		}
	}
}
