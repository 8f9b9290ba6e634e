package extmap

import (
	"maps"
	"math"
	"slices"
	"testing"

	"lighter/api"
)

func sp(at, n int) api.Span { return api.Span{At: at, Len: n} }

func ext(at, n, seq, to int) api.Extent {
	return api.Extent{Span: sp(at, n), Spot: api.Spot{Seq: seq, At: to}}
}

// badSpans is spans that may not be, those that wrap round among them.
func badSpans() []api.Span {
	return []api.Span{
		{}, sp(0, -1), sp(5, 0), sp(-1, 1), sp(-1, 2), sp(0, api.MaxSectors+1), sp(1, api.MaxSectors), sp(api.MaxSectors, 0), sp(api.MaxSectors, 1),
		sp(math.MaxInt, 1), sp(1, math.MaxInt), sp(math.MaxInt, math.MaxInt), sp(math.MinInt, 1), sp(0, math.MinInt), sp(math.MinInt, math.MinInt), sp(math.MinInt, math.MaxInt),
	}
}

// badSpots is spots that may not be.
func badSpots() []api.Spot {
	var l []api.Spot
	for _, n := range []int{-1, api.MaxSeq, api.MaxSeq + 1, math.MaxInt, math.MinInt} {
		l = append(l, api.Spot{Seq: n}, api.Spot{At: n}, api.Spot{Seq: n, At: n}, api.Spot{Seq: 1, At: n}, api.Spot{Seq: n, At: 1})
	}
	return l
}

// badExtents is extents that may not be.
func badExtents() []api.Extent {
	var l []api.Extent
	for _, s := range badSpans() {
		l = append(l, api.Extent{Span: s}, api.Extent{Span: s, Spot: api.Spot{Seq: 1, At: 1}}, api.Extent{Span: s, Spot: api.Spot{Seq: -1}})
	}
	for _, s := range badSpots() {
		l = append(l, api.Extent{Span: sp(0, 1), Spot: s}, api.Extent{Span: sp(2, 3), Spot: s})
	}
	return l
}

// goodSpots is spots that may be, at the edges.
func goodSpots() []api.Spot {
	const last = api.MaxSeq - 1
	return []api.Spot{{}, {Seq: 1}, {At: 1}, {Seq: last}, {At: last}, {Seq: last, At: last}, {Seq: 7, At: 1 << 20}}
}

// wants fails unless a call answered a list and no error.
func wants(t *testing.T, what string, got []api.Extent, e api.Errno, want []api.Extent) {
	t.Helper()
	if e != api.OK || !slices.Equal(got, want) {
		t.Fatalf("%s: %v, %v; want %v", what, got, e, want)
	}
}

// P7.1: May.
func TestMay(t *testing.T) {
	for _, s := range []api.Span{sp(0, 1), sp(7, 3), sp(0, api.MaxSectors), sp(1, api.MaxSectors-1), sp(api.MaxSectors-1, 1)} {
		for _, spot := range goodSpots() {
			if e := May(api.Extent{Span: s, Spot: spot}); e != api.OK {
				t.Error(s, spot, e)
			}
		}
	}
	for _, x := range badExtents() {
		if e := May(x); e != api.ErrArg {
			t.Error(x, e)
		}
	}
}

// The chapter's example.
func TestExample(t *testing.T) {
	m := New()
	was, e := m.Put(ext(0, 4, 5, 0))
	wants(t, "Put", was, e, nil)
	was, e = m.Put(ext(1, 2, 7, 9))
	wants(t, "Put", was, e, []api.Extent{ext(1, 2, 5, 1)})
	wants(t, "All", m.All(), api.OK, []api.Extent{ext(0, 1, 5, 0), ext(1, 2, 7, 9), ext(3, 1, 5, 3)})
}

// P7.1, P7.3: in a new map no sector has a spot.
func TestNew(t *testing.T) {
	m := New()
	same(t, m, model{}, sp(0, 1), sp(0, api.MaxSectors), sp(api.MaxSectors-1, 1))
	was, e := m.Put()
	wants(t, "Put of nothing", was, e, nil)
	was, e = m.Cut()
	wants(t, "Cut of nothing", was, e, nil)
	was, e = m.Cut(sp(0, api.MaxSectors))
	wants(t, "Cut of a new map", was, e, nil)
	same(t, m, model{}, sp(0, api.MaxSectors))
	m.Put(ext(0, 1, 1, 0))
	same(t, New(), model{}, sp(0, api.MaxSectors))
}

// P7.2, P7.3, P7.4: of all small maps Find, Holes, All and Sectors tell what is there, in whatever order it was put.
func TestEachMap(t *testing.T) {
	for _, base := range bases() {
		eachState(base, func(o model) {
			order := rising(o)
			m := made(t, o, order)
			same(t, m, o, spans(base, wide)...)
			same(t, m, o, sp(0, api.MaxSectors))
			slices.Reverse(order)
			same(t, made(t, o, order), o)
			order = []int{base + 1, base + 3, base, base + 2}
			same(t, made(t, o, order), o)
			whole := New()
			was, e := whole.Put(m.All()...)
			wants(t, "Put of All", was, e, nil)
			same(t, whole, o)
		})
	}
}

// P7.1, P7.4: of all small maps each Put and Cut answers what was, and turns these sectors alone.
func TestEachPutAndCut(t *testing.T) {
	for _, base := range bases() {
		eachState(base, func(o model) {
			m := made(t, o, rising(o))
			for _, x := range extents(base) {
				n, p := m.Copy(), maps.Clone(o)
				was, e := n.Put(x)
				wants(t, "Put", was, e, p.put(x))
				same(t, n, p)
				found, e := n.Find(x.Span)
				wants(t, "what was put last", found, e, []api.Extent{x})
			}
			for _, s := range spans(base, wide) {
				n, p := m.Copy(), maps.Clone(o)
				was, e := n.Cut(s)
				wants(t, "Cut", was, e, p.cut(s))
				same(t, n, p)
				found, e := n.Find(s)
				wants(t, "what is cut", found, e, nil)
				was, e = n.Put(was...)
				wants(t, "Put of what was cut", was, e, nil)
				same(t, n, o)
			}
			same(t, m, o)
		})
	}
}

// P7.2, P7.4: of all small maps each Move turns those sectors that are just there, and tells how many.
func TestEachMove(t *testing.T) {
	for _, base := range bases() {
		eachState(base, func(o model) {
			m := made(t, o, rising(o))
			for _, x := range extents(base) {
				for _, to := range choices(base, x.At) {
					n, p := m.Copy(), maps.Clone(o)
					moved, e := n.Move(x, to)
					if want := p.move(x, to); moved != want || e != api.OK {
						t.Fatalf("Move of %v to %v in %v: %d, %v; want %d", x, to, o.all(), moved, e, want)
					}
					same(t, n, p)
				}
			}
		})
	}
}

// P7.1: of many at a time each is done behind the one ahead of it, and has a list of its own in the answer.
func TestOneByOne(t *testing.T) {
	m := New()
	was, e := m.Put(ext(0, 4, 1, 0), ext(1, 2, 2, 0), ext(0, 4, 3, 0))
	wants(t, "Put over one another", was, e, []api.Extent{ext(1, 2, 1, 1), ext(0, 1, 1, 0), ext(1, 2, 2, 0), ext(3, 1, 1, 3)})
	was, e = m.Put(ext(2, 2, 4, 0), ext(0, 2, 4, 8))
	wants(t, "Put from behind", was, e, []api.Extent{ext(2, 2, 3, 2), ext(0, 2, 3, 0)})
	m = New()
	m.Put(ext(0, 4, 1, 0))
	was, e = m.Put(ext(0, 2, 2, 0), ext(2, 2, 2, 2))
	wants(t, "lists that go on stay two", was, e, []api.Extent{ext(0, 2, 1, 0), ext(2, 2, 1, 2)})
	was, e = m.Cut(sp(0, 1), sp(1, 1), sp(0, 3), sp(0, 4))
	wants(t, "Cut of one behind the other", was, e, []api.Extent{ext(0, 1, 2, 0), ext(1, 1, 2, 1), ext(2, 1, 2, 2), ext(3, 1, 2, 3)})
	same(t, m, model{}, sp(0, 8))
}

// P7.1, P7.2, R1: with an argument that may not be nothing is done, wherever it stands.
func TestRefuses(t *testing.T) {
	o := model{}
	m := New()
	for _, x := range []api.Extent{ext(0, 4, 5, 0), ext(1, 2, 7, 9), ext(8, 4, 0, 0)} {
		m.Put(x)
		o.put(x)
	}
	refuses := func(what string, n int, e api.Errno) {
		t.Helper()
		if n != 0 || e != api.ErrArg {
			t.Errorf("%s: %d, %v; want ErrArg", what, n, e)
		}
		same(t, m, o)
	}
	for _, x := range badExtents() {
		for _, l := range [][]api.Extent{{x}, {x, ext(0, 9, 1, 1)}, {ext(0, 9, 1, 1), x}, {ext(0, 1, 1, 1), x, ext(3, 3, 1, 1)}} {
			was, e := m.Put(l...)
			refuses("Put", len(was), e)
		}
		n, e := m.Move(x, api.Spot{Seq: 1})
		refuses("Move", n, e)
	}
	for _, s := range badSpots() {
		n, e := m.Move(ext(0, 1, 5, 0), s)
		refuses("Move", n, e)
		n, e = m.Move(ext(20, 1, 5, 0), s)
		refuses("Move of what is not there", n, e)
	}
	for _, s := range badSpans() {
		for _, l := range [][]api.Span{{s}, {s, sp(0, 9)}, {sp(0, 9), s}, {sp(0, 1), s, sp(3, 3)}} {
			was, e := m.Cut(l...)
			refuses("Cut", len(was), e)
		}
		found, e := m.Find(s)
		refuses("Find", len(found), e)
		holes, e := m.Holes(s)
		refuses("Holes", len(holes), e)
	}
}

// P7.3: of a nil map ErrNil, nothing, 0, with whatever arguments.
func TestNil(t *testing.T) {
	var m *Map
	is := func(what string, n int, e api.Errno) {
		t.Helper()
		if n != 0 || e != api.ErrNil {
			t.Errorf("%s: %d, %v; want ErrNil", what, n, e)
		}
	}
	was, e := m.Put()
	is("Put", len(was), e)
	was, e = m.Cut()
	is("Cut", len(was), e)
	for _, x := range []api.Extent{ext(0, 1, 1, 1), {}} {
		was, e = m.Put(x)
		is("Put", len(was), e)
		was, e = m.Cut(x.Span)
		is("Cut", len(was), e)
		n, e := m.Move(x, api.Spot{At: x.Len - 1})
		is("Move", n, e)
		found, e := m.Find(x.Span)
		is("Find", len(found), e)
		holes, e := m.Holes(x.Span)
		is("Holes", len(holes), e)
	}
	if len(m.All()) != 0 || m.Sectors() != 0 || m.Copy() != nil {
		t.Error(m.All(), m.Sectors(), m.Copy())
	}
}

// P7.3: a copy is the same, and a map of its own, on both sides.
func TestCopy(t *testing.T) {
	turns := []func(m *Map){
		func(m *Map) { m.Put(ext(1, 1, 9, 9)) },
		func(m *Map) { m.Put(ext(0, 40, 9, 9)) },
		func(m *Map) { m.Put(ext(50, 1, 9, 9)) },
		func(m *Map) { m.Cut(sp(0, 1)) },
		func(m *Map) { m.Cut(sp(9, 2)) },
		func(m *Map) { m.Move(ext(0, 4, 5, 0), api.Spot{Seq: 6}) },
	}
	start := []api.Extent{ext(0, 4, 5, 0), ext(4, 2, 7, 9), ext(8, 4, 0, 0)}
	for i, turn := range turns {
		m := New()
		m.Put(start...)
		c := m.Copy()
		wants(t, "Copy", c.All(), api.OK, start)
		turn(m)
		if slices.Equal(m.All(), start) {
			t.Fatal(i, "turned nothing")
		}
		wants(t, "Copy of what was turned", c.All(), api.OK, start)
		m = c.Copy()
		turn(c)
		wants(t, "what was copied", m.All(), api.OK, start)
	}
	if c := New().Copy(); c == nil || c.Sectors() != 0 {
		t.Error("Copy of an empty map")
	}
}

// P7.3: Few of every list of up to three of some extents, against what the words say.
func TestFew(t *testing.T) {
	for _, base := range bases() {
		l := extents(base)
		check := func(l ...api.Extent) {
			t.Helper()
			if got, want := Few(l), few(l); !slices.Equal(got, want) {
				t.Fatalf("Few of %v: %v; want %v", l, got, want)
			}
		}
		for _, a := range l {
			check(a)
			for _, b := range l {
				check(a, b)
				for _, c := range l {
					check(a, b, c)
				}
			}
		}
	}
	wants(t, "Few of nothing", Few(nil), api.OK, nil)
	got := Few([]api.Extent{ext(0, 2, 1, 0), ext(2, 3, 1, 2), ext(5, 1, 1, 9), ext(7, 1, 1, 10), ext(8, api.MaxSectors-8, 1, 11)})
	wants(t, "Few", got, api.OK, []api.Extent{ext(0, 5, 1, 0), ext(5, 1, 1, 9), ext(7, api.MaxSectors-7, 1, 10)})
}

// P7.3: Few of extents of which one may not be is nothing.
func TestFewRefuses(t *testing.T) {
	for _, x := range badExtents() {
		for _, l := range [][]api.Extent{{x}, {x, ext(9, 1, 1, 1)}, {ext(0, 1, 1, 1), x}, {ext(0, 1, 1, 1), x, ext(9, 1, 1, 1)}} {
			if got := Few(l); len(got) != 0 {
				t.Error(l, got)
			}
		}
	}
}

// P7.4: Few of All is All; it is All of a map into which the list was put.
func TestFewOfAll(t *testing.T) {
	for _, base := range bases() {
		eachState(base, func(o model) {
			var l []api.Extent
			for _, at := range rising(o) {
				l = append(l, api.Extent{Span: sp(at, 1), Spot: o[at]})
			}
			wants(t, "Few of sectors", Few(l), api.OK, o.all())
			wants(t, "Few of All", Few(o.all()), api.OK, o.all())
		})
	}
}

// P7.1, P7.2: an extent may be if its first sector's spot may; those of the others go on beyond that.
func TestLastSpots(t *testing.T) {
	const last = api.MaxSeq - 1
	m, o := New(), model{}
	x := ext(3, 4, last, last)
	was, e := m.Put(x)
	wants(t, "Put", was, e, o.put(x))
	same(t, m, o, spans(0, 9)...)
	was, e = m.Cut(sp(4, 1))
	wants(t, "Cut", was, e, []api.Extent{ext(4, 1, last, last+1)})
	wants(t, "All", m.All(), api.OK, []api.Extent{ext(3, 1, last, last), ext(5, 2, last, last+2)})
	n, e := m.Move(x, api.Spot{Seq: 1, At: last})
	if n != 3 || e != api.OK {
		t.Error(n, e)
	}
	wants(t, "All", m.All(), api.OK, []api.Extent{ext(3, 1, 1, last), ext(5, 2, 1, last+2)})
}

// P7.1 to P7.4: long ways of calls, on few sectors and on all, against the model.
func TestLongWays(t *testing.T) {
	for _, n := range []int{1, 2, 5, 12, 40} {
		for seed := range 60 {
			r := rolls(seed*1000 + n)
			m, o := New(), model{}
			for range 200 {
				step(t, &r, m, o, n)
			}
		}
	}
	r := rolls(1)
	m, o := New(), model{}
	for range 60 {
		step(t, &r, m, o, api.MaxSectors)
	}
}

// step is one call, and what is found behind it.
func step(t *testing.T, r *rolls, m *Map, o model, n int) {
	t.Helper()
	switch r.below(4) {
	case 0:
		l := []api.Extent{r.extent(n), r.extent(n), r.extent(n)}[r.below(3):]
		was, e := m.Put(l...)
		wants(t, "Put", was, e, o.put(l...))
	case 1:
		l := []api.Span{r.span(n), r.span(n), r.span(n)}[r.below(3):]
		was, e := m.Cut(l...)
		wants(t, "Cut", was, e, o.cut(l...))
	case 2:
		x, to := r.extent(n), r.extent(n).Spot
		moved, e := m.Move(x, to)
		if want := o.move(x, to); moved != want || e != api.OK {
			t.Fatalf("Move of %v to %v: %d, %v; want %d", x, to, moved, e, want)
		}
	default:
		// What is already there, told once more, turns nothing.
		for _, x := range m.All() {
			was, e := m.Put(x)
			wants(t, "Put of what is there", was, e, []api.Extent{x})
		}
	}
	same(t, m, o, r.span(n), r.span(n), sp(0, n))
}

// R2: no call writes into what it was handed, nor behind its length.
func TestNothingIsWrittenInto(t *testing.T) {
	whole := []api.Extent{ext(0, 2, 1, 0), ext(2, 2, 1, 2), ext(6, 2, 1, 6), ext(9, 9, 9, 9), ext(7, 7, 7, 7)}
	kept := slices.Clone(whole)
	off := []api.Span{sp(1, 2), sp(0, 1), sp(7, 1), sp(8, 8), sp(5, 5)}
	offKept := slices.Clone(off)
	m := New()
	for n := range 4 {
		l, s := whole[:n], off[:n]
		Few(l)
		m.Put(l...)
		m.Put(ext(1, 6, 2, 0))
		m.Cut(s...)
		m.Put(l...)
		m.Put(l...)
		m.Cut(s...)
		m.Copy().Cut(sp(0, 20))
	}
	if !slices.Equal(whole, kept) || !slices.Equal(off, offKept) {
		t.Error(whole, off)
	}
}

// spoil writes over a list, and behind its length.
func spoil[T any](l []T) {
	l = l[:cap(l)]
	clear(l)
}

// R2: what is answered is the caller's: it shares no memory with the map, nor with what was handed in.
func TestAnswersAreTheCallers(t *testing.T) {
	l := []api.Extent{ext(0, 2, 1, 0), ext(2, 2, 2, 2), ext(6, 2, 1, 6), ext(12, 2, 1, 6)}
	kept := slices.Clone(l)
	m := New()
	m.Put(l...)
	for _, s := range append(spans(0, 16), sp(0, api.MaxSectors)) {
		found, _ := m.Find(s)
		spoil(found)
		holes, _ := m.Holes(s)
		spoil(holes)
		spoil(m.All())
		spoil(Few(l))
		wants(t, "All", m.All(), api.OK, l)
		c := m.Copy()
		was, _ := c.Cut(s)
		left := c.All()
		spoil(was)
		wants(t, "All behind Cut", c.All(), api.OK, left)
		c = m.Copy()
		x := api.Extent{Span: s, Spot: api.Spot{Seq: 3}}
		was, _ = c.Put(x, x)
		left = c.All()
		spoil(was)
		wants(t, "All behind Put", c.All(), api.OK, left)
	}
	if !slices.Equal(l, kept) {
		t.Error(l)
	}
}

// R2: an answer stays as it is, whatever the map comes to be.
func TestAnswersStay(t *testing.T) {
	l := []api.Extent{ext(0, 2, 1, 0), ext(2, 2, 2, 2), ext(6, 2, 1, 6), ext(12, 2, 1, 6)}
	for _, s := range spans(0, 16) {
		m := New()
		m.Put(l...)
		all := m.All()
		found, _ := m.Find(s)
		was, _ := m.Cut(s)
		foundKept, wasKept := slices.Clone(found), slices.Clone(was)
		m.Put(ext(0, 16, 9, 0))
		m.Put(l...)
		m.Move(l[0], api.Spot{Seq: 8})
		m.Cut(sp(1, 9))
		if !slices.Equal(all, l) || !slices.Equal(found, foundKept) || !slices.Equal(was, wasKept) {
			t.Fatal(s, all, found, was)
		}
	}
}

// P7.1 to P7.3: the greatest maps there are: no two sectors go on in one another.
func TestGreatestMaps(t *testing.T) {
	var l []api.Extent
	for at := range api.MaxSectors {
		l = append(l, ext(at, 1, 1, api.MaxSectors-at))
	}
	m := New()
	was, e := m.Put(l...)
	wants(t, "Put", was, e, nil)
	wants(t, "All", m.All(), api.OK, l)
	if m.Sectors() != api.MaxSectors || len(Few(l)) != api.MaxSectors {
		t.Error(m.Sectors())
	}
	odd := m.Copy()
	var off []api.Span
	for at := 0; at < api.MaxSectors; at += 2 {
		off = append(off, sp(at, 1))
	}
	was, e = odd.Cut(off...)
	if e != api.OK || len(was) != len(off) || odd.Sectors() != len(off) {
		t.Error(len(was), e, odd.Sectors())
	}
	holes, e := odd.Holes(sp(0, api.MaxSectors))
	if e != api.OK || !slices.Equal(holes, off) {
		t.Error(len(holes), e)
	}
	was, e = m.Put(ext(0, api.MaxSectors, 2, 0))
	wants(t, "Put over all", was, e, l)
	wants(t, "All", m.All(), api.OK, []api.Extent{ext(0, api.MaxSectors, 2, 0)})
	n, e := m.Move(ext(0, api.MaxSectors, 2, 0), api.Spot{Seq: 3, At: 5})
	if n != api.MaxSectors || e != api.OK {
		t.Error(n, e)
	}
	was, e = m.Cut(sp(0, api.MaxSectors))
	wants(t, "Cut of all", was, e, []api.Extent{ext(0, api.MaxSectors, 3, 5)})
}
