package live

import (
	"math/big"
	"slices"
	"testing"

	"lighter/api"
)

// model is a table as the chapter's words tell it: rows, in the order in which they came.
type model []Row

// place is where the row of an object stands, or -1.
func (m model) place(seq int) int {
	for i, r := range m {
		if r.Seq == seq {
			return i
		}
	}
	return -1
}

// mayBe is whether a row may be.
func mayBe(r Row) bool {
	return 1 <= r.Seq && r.Seq < 1099511627776 && 0 <= r.Total && r.Total <= 65536 && 0 <= r.Live && r.Live <= r.Total
}

func (m *model) add(l ...Row) api.Errno {
	for _, r := range l {
		if !mayBe(r) {
			return api.ErrArg
		}
	}
	for i, r := range l {
		if m.place(r.Seq) >= 0 || model(l[:i]).place(r.Seq) >= 0 {
			return api.ErrThere
		}
	}
	*m = append(*m, l...)
	return api.OK
}

func (m *model) drop(seq int) api.Errno {
	i := m.place(seq)
	if i < 0 {
		return api.ErrNone
	}
	*m = slices.Delete(*m, i, i+1)
	return api.OK
}

// change is Change of extents that may be.
func (m model) change(more, less []api.Extent) api.Errno {
	next := slices.Clone(m)
	for i, x := range slices.Concat(more, less) {
		if x.Spot.Seq == 0 {
			continue
		}
		at := m.place(x.Spot.Seq)
		if at < 0 {
			return api.ErrNone
		}
		if i < len(more) {
			next[at].Live += x.Len
		} else {
			next[at].Live -= x.Len
		}
	}
	for _, r := range next {
		if r.Live < 0 || r.Live > r.Total {
			return api.ErrRange
		}
	}
	copy(m, next)
	return api.OK
}

// rows is all rows, the least number that is left first.
func (m model) rows() []Row {
	var l []Row
	left := slices.Clone(m)
	for len(left) > 0 {
		least := 0
		for i, r := range left {
			if r.Seq < left[least].Seq {
				least = i
			}
		}
		l = append(l, left[least])
		left = slices.Delete(left, least, least+1)
	}
	return l
}

// times is a product of any numbers.
func times(a, b int) *big.Int {
	return new(big.Int).Mul(big.NewInt(int64(a)), big.NewInt(int64(b)))
}

// victims is what Victims answers, in whole numbers of any size.
func (m model) victims(percent int) []int {
	var left model
	for _, r := range m.rows() {
		if times(r.Live, 100).Cmp(times(percent, r.Total)) < 0 {
			left = append(left, r)
		}
	}
	var l []int
	for len(left) > 0 {
		first := 0
		for i, r := range left {
			if times(r.Live, left[first].Total).Cmp(times(left[first].Live, r.Total)) < 0 {
				first = i
			}
		}
		l = append(l, left[first].Seq)
		left = slices.Delete(left, first, first+1)
	}
	return l
}

// same fails unless a table is as its model in all that it tells.
func same(t *testing.T, x *Table, m model) {
	t.Helper()
	want := m.rows()
	if got := x.Rows(); !slices.Equal(got, want) {
		t.Fatalf("Rows: %v; want %v", got, want)
	}
	total, live := 0, 0
	for _, r := range want {
		total += r.Total
		live += r.Live
		if got, e := x.Get(r.Seq); got != r || e != api.OK {
			t.Fatalf("Get of %d: %v, %v; want %v", r.Seq, got, e, r)
		}
	}
	if gotTotal, gotLive := x.Sum(); gotTotal != total || gotLive != live {
		t.Fatalf("Sum: %d, %d; want %d, %d", gotTotal, gotLive, total, live)
	}
}

// rolls is a row of numbers that looks like chance, and is the same each time.
type rolls uint64

func (r *rolls) below(n int) int {
	*r = *r*6364136223846793005 + 1442695040888963407
	return int(uint64(*r)>>33) % n
}

// row is any one of few objects, now and then such as may not be.
func (r *rolls) row() Row {
	total := r.below(6)
	x := Row{Seq: 1 + r.below(9), Total: total, Live: r.below(total + 1)}
	switch r.below(12) {
	case 0:
		x.Live = total + 1
	case 1:
		x.Seq = 0
	}
	return x
}

// extents is up to so many, of few objects, the log among them.
func (r *rolls) extents(most int) []api.Extent {
	var l []api.Extent
	for range r.below(most + 1) {
		l = append(l, ext(r.below(20), 1+r.below(3), r.below(10), r.below(20)))
	}
	return l
}
