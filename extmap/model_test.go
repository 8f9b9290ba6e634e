package extmap

import (
	"maps"
	"slices"
	"testing"

	"lighter/api"
	"lighter/span"
)

// model is a map as the chapter's words tell it: the spot of each sector that has one.
type model map[int]api.Spot

// spotIn is where an extent tells that a sector of it is.
func spotIn(x api.Extent, at int) api.Spot {
	return api.Spot{Seq: x.Spot.Seq, At: x.Spot.At + (at - x.At)}
}

// find is the extents of the sectors of a span, made sector by sector.
func (m model) find(s api.Span) []api.Extent {
	var l []api.Extent
	for _, at := range rising(m) {
		if at < s.At || at >= s.At+s.Len {
			continue
		}
		ahead, near := m[at-1]
		if at > s.At && near && ahead.Seq == m[at].Seq && ahead.At+1 == m[at].At {
			l[len(l)-1].Len++
		} else {
			l = append(l, api.Extent{Span: sp(at, 1), Spot: m[at]})
		}
	}
	return l
}

// holes is the set of the sectors of a span that have no spot.
func (m model) holes(s api.Span) []api.Span {
	var l []api.Span
	for at := s.At; at < s.At+s.Len; at++ {
		if _, there := m[at]; there {
			continue
		}
		if last := len(l) - 1; last >= 0 && l[last].At+l[last].Len == at {
			l[last].Len++
		} else {
			l = append(l, sp(at, 1))
		}
	}
	return l
}

func (m model) all() []api.Extent { return m.find(sp(0, api.MaxSectors)) }

func (m model) put(l ...api.Extent) []api.Extent {
	var was []api.Extent
	for _, x := range l {
		was = append(was, m.find(x.Span)...)
		for at := x.At; at < x.At+x.Len; at++ {
			m[at] = spotIn(x, at)
		}
	}
	return was
}

func (m model) cut(l ...api.Span) []api.Extent {
	var was []api.Extent
	for _, s := range l {
		was = append(was, m.find(s)...)
		for at := s.At; at < s.At+s.Len; at++ {
			delete(m, at)
		}
	}
	return was
}

func (m model) move(x api.Extent, to api.Spot) int {
	n := 0
	for at := x.At; at < x.At+x.Len; at++ {
		if spot, there := m[at]; there && spot == spotIn(x, at) {
			m[at] = spotIn(api.Extent{Span: x.Span, Spot: to}, at)
			n++
		}
	}
	return n
}

// few is the model's answer to Few.
func few(l []api.Extent) []api.Extent {
	m := model{}
	end := 0
	for _, x := range l {
		if May(x) != api.OK || x.At < end || len(m.find(x.Span)) > 0 {
			return nil
		}
		m.put(x)
		end = x.At + 1
	}
	return m.all()
}

// same fails unless a map is as its model in all that it tells of a span's sectors, and of all.
func same(t *testing.T, m *Map, o model, l ...api.Span) {
	t.Helper()
	if got, want := m.All(), o.all(); !slices.Equal(got, want) {
		t.Fatalf("All: %v; want %v", got, want)
	}
	if m.Sectors() != len(o) {
		t.Fatalf("Sectors: %d; want %d", m.Sectors(), len(o))
	}
	for _, s := range l {
		found, e := m.Find(s)
		wants(t, "Find", found, e, o.find(s))
		holes, e := m.Holes(s)
		if e != api.OK || span.Check(holes) != api.OK || !slices.Equal(holes, o.holes(s)) {
			t.Fatalf("Holes of %v in %v: %v, %v; want %v", s, o.all(), holes, e, o.holes(s))
		}
	}
}

// The small maps: of so many sectors from a base on.
const wide = 4

// bases are where the sectors of small maps begin: at both ends of what may be.
func bases() []int { return []int{0, api.MaxSectors - wide} }

// spans is each span of n sectors from a base on.
func spans(base, n int) []api.Span {
	var l []api.Span
	for at := range n {
		for k := 1; at+k <= n; k++ {
			l = append(l, sp(base+at, k))
		}
	}
	return l
}

// choices is spots that a sector of a small map may have: such as go on in the
// next sector's, of two objects, and such as do not.
func choices(base, at int) []api.Spot {
	return []api.Spot{{Seq: 1, At: 10 + at - base}, {Seq: 2, At: 10 + at - base}, {Seq: 1, At: 11 + at - base}, {Seq: 0, At: 10}}
}

// extents is each of a small map's spans with each choice.
func extents(base int) []api.Extent {
	var l []api.Extent
	for _, s := range spans(base, wide) {
		for _, spot := range choices(base, s.At) {
			l = append(l, api.Extent{Span: s, Spot: spot})
		}
	}
	return l
}

// eachState calls f with every small map: each sector has a choice, or none.
func eachState(base int, f func(o model)) {
	for n := range 625 {
		o := model{}
		for i := range wide {
			if k := n % 5; k > 0 {
				o[base+i] = choices(base, base+i)[k-1]
			}
			n /= 5
		}
		f(o)
	}
}

// made is the map of a model, put sector by sector in an order, rising or not.
func made(t *testing.T, o model, order []int) *Map {
	t.Helper()
	m := New()
	for _, at := range order {
		if spot, there := o[at]; there {
			was, e := m.Put(api.Extent{Span: sp(at, 1), Spot: spot})
			wants(t, "Put of a sector", was, e, nil)
		}
	}
	return m
}

// rising is the sectors of a model, rising.
func rising(o model) []int { return slices.Sorted(maps.Keys(o)) }

// rolls is a row of numbers that looks like chance, and is the same each time.
type rolls uint64

func (r *rolls) below(n int) int {
	*r = *r*6364136223846793005 + 1442695040888963407
	return int(uint64(*r)>>33) % n
}

// span is any of n sectors.
func (r *rolls) span(n int) api.Span {
	at := r.below(n)
	return sp(at, 1+r.below(n-at))
}

// extent is any of n sectors, in few objects, at spots that often go on in others'.
func (r *rolls) extent(n int) api.Extent {
	s := r.span(n)
	return api.Extent{Span: s, Spot: api.Spot{Seq: r.below(3), At: s.At + r.below(2)}}
}
