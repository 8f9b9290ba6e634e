// Package span is layer 1: see shared/doc/01-span.md.
package span

import (
	"cmp"
	"slices"

	"lighter/api"
)

// May is what is wrong with a span.
func May(s api.Span) api.Errno {
	// A sum of At and Len could wrap round; of a Len above 0 this difference cannot.
	if s.At < 0 || s.Len < 1 || s.At > api.MaxSectors-s.Len {
		return api.ErrArg
	}
	return api.OK
}

// Check is what is wrong with a set.
func Check(l []api.Span) api.Errno {
	end := -1 // the first span may begin at 0
	for _, s := range l {
		if May(s) != api.OK || s.At <= end {
			return api.ErrArg
		}
		end = s.End()
	}
	return api.OK
}

// Join is the set of all sectors of spans.
func Join(l ...api.Span) ([]api.Span, api.Errno) {
	for _, s := range l {
		if e := May(s); e != api.OK {
			return nil, e
		}
	}
	// A caller's list that is handed in whole is the caller's own: a copy is sorted.
	rising := slices.Clone(l)
	slices.SortFunc(rising, func(a, b api.Span) int { return cmp.Compare(a.At, b.At) })
	return merge(rising), api.OK
}

// merge is the set of the sectors of spans that may be and begin in rising order.
func merge(rising []api.Span) []api.Span {
	var set []api.Span
	for _, s := range rising {
		last := len(set) - 1
		if last < 0 || s.At > set[last].End() {
			set = append(set, s)
		} else {
			set[last].Len = max(set[last].End(), s.End()) - set[last].At
		}
	}
	return set
}

// Cut is a set without the sectors of spans.
func Cut(l []api.Span, off ...api.Span) ([]api.Span, api.Errno) {
	if e := Check(l); e != api.OK {
		return nil, e
	}
	away, e := Join(off...)
	if e != api.OK {
		return nil, e
	}
	var left []api.Span
	for _, s := range l {
		at := s.At
		for _, o := range near(away, s) {
			left = add(left, at, o.At)
			at = o.End()
		}
		left = add(left, at, s.End())
	}
	return left, api.OK
}

// Meet is the sectors that are in both sets.
func Meet(a, b []api.Span) ([]api.Span, api.Errno) {
	if e := Check(a); e != api.OK {
		return nil, e
	}
	if e := Check(b); e != api.OK {
		return nil, e
	}
	var both []api.Span
	for _, s := range a {
		for _, o := range near(b, s) {
			both = add(both, max(s.At, o.At), min(s.End(), o.End()))
		}
	}
	return both, api.OK
}

// Gaps is the sectors of a span that are not in a set.
func Gaps(l []api.Span, within api.Span) ([]api.Span, api.Errno) {
	if e := Check(l); e != api.OK {
		return nil, e
	}
	return Cut([]api.Span{within}, l...)
}

// Total is how many sectors there are.
func Total(l []api.Span) int {
	if Check(l) != api.OK {
		return 0
	}
	n := 0
	for _, s := range l {
		n += s.Len
	}
	return n
}

// Has tells whether a sector is in a set.
func Has(l []api.Span, at int) bool {
	if Check(l) != api.OK {
		return false
	}
	i := place(l, at)
	return i < len(l) && l[i].At <= at
}

// Fit is the first n sectors in a row of a span that are not in a set.
func Fit(l []api.Span, within api.Span, n int) (api.Span, api.Errno) {
	gaps, e := Gaps(l, within)
	if e != api.OK {
		return api.Span{}, e
	}
	if n < 1 {
		return api.Span{}, api.ErrArg
	}
	for _, g := range gaps {
		if g.Len >= n {
			return api.Span{At: g.At, Len: n}, api.OK
		}
	}
	return api.Span{}, api.ErrNone
}

// place is how many spans of a set end at a sector or ahead of it: the next one is the first that may have it.
func place(l []api.Span, at int) int {
	low, high := 0, len(l)
halve:
	for {
		mid := low + (high-low)/2
		switch {
		case low == high:
			break halve
		case l[mid].End() <= at:
			low = mid + 1
		default:
			high = mid
		}
	}
	return low
}

// near is the spans of a set that have a sector of s: a piece of the set's own memory, to be read only.
func near(l []api.Span, s api.Span) []api.Span {
	from, to := place(l, s.At), place(l, s.End())
	if to < len(l) && l[to].At < s.End() {
		to++
	}
	return l[from:to]
}

// add is a list with the sectors from at to ahead of end behind it, if there are any.
func add(l []api.Span, at, end int) []api.Span {
	if at >= end {
		return l
	}
	return append(l, api.Span{At: at, Len: end - at})
}
