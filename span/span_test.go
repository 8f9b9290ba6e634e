package span

import (
	"math"
	"slices"
	"testing"

	"lighter/api"
)

// The model: a set of up to wide sectors from a base on, as the bits of a number.
const wide = 8

// bases are where the model's sectors begin: at both ends of what may be.
func bases() []int { return []int{0, api.MaxSectors - wide} }

func sp(at, n int) api.Span { return api.Span{At: at, Len: n} }

// setOf is the set of the bits' sectors, made sector by sector.
func setOf(bits, base int) []api.Span {
	var l []api.Span
	for i := 0; i < wide; i++ {
		if bits>>i&1 == 0 {
			continue
		}
		if i > 0 && bits>>(i-1)&1 == 1 {
			l[len(l)-1].Len++
		} else {
			l = append(l, sp(base+i, 1))
		}
	}
	return l
}

// bitsOf is the bits of spans' sectors.
func bitsOf(l []api.Span, base int) int {
	bits := 0
	for _, s := range l {
		for i := 0; i < s.Len; i++ {
			bits |= 1 << (s.At - base + i)
		}
	}
	return bits
}

// allSpans is each span of the model's first n sectors.
func allSpans(base, n int) []api.Span {
	var l []api.Span
	for at := 0; at < n; at++ {
		for k := 1; at+k <= n; k++ {
			l = append(l, sp(base+at, k))
		}
	}
	return l
}

// badSpans is spans that may not be, those that wrap round among them.
func badSpans() []api.Span {
	return []api.Span{
		{}, sp(0, -1), sp(5, 0), sp(-1, 1), sp(-1, 2), sp(-1, 0),
		sp(0, api.MaxSectors+1), sp(1, api.MaxSectors), sp(api.MaxSectors-1, 2),
		sp(api.MaxSectors, 0), sp(api.MaxSectors, 1), sp(api.MaxSectors+1, 1), sp(api.MaxSectors+1, -1), sp(-5, api.MaxSectors),
		sp(math.MaxInt, 1), sp(math.MaxInt, math.MaxInt), sp(1, math.MaxInt), sp(0, math.MaxInt),
		sp(math.MinInt, 1), sp(math.MinInt, math.MinInt), sp(0, math.MinInt), sp(1, math.MinInt),
		sp(math.MinInt, math.MaxInt), sp(math.MaxInt, math.MinInt), sp(1<<62, 1<<62),
	}
}

// badSets is lists that are no set.
func badSets() [][]api.Span {
	l := [][]api.Span{
		{sp(1, 2), sp(3, 1)},
		{sp(1, 2), sp(2, 1)},
		{sp(1, 2), sp(1, 2)},
		{sp(1, 9), sp(3, 1)},
		{sp(4, 1), sp(1, 2)},
		{sp(0, 1), sp(2, 1), sp(3, 1)},
		{sp(0, 1), sp(4, 1), sp(2, 1)},
		{sp(0, api.MaxSectors), sp(0, api.MaxSectors)},
		{sp(api.MaxSectors-1, 1), sp(api.MaxSectors, 1)},
	}
	for _, s := range badSpans() {
		l = append(l, []api.Span{s}, []api.Span{sp(0, 1), s}, []api.Span{s, sp(2, 1)})
	}
	return l
}

// wants fails unless a call answered a list and no error.
func wants(t *testing.T, what string, got []api.Span, e api.Errno, want []api.Span) {
	t.Helper()
	if e != api.OK || !slices.Equal(got, want) {
		t.Errorf("%s: %v, %d; want %v", what, got, int(e), want)
	}
}

// refuses fails unless a call answered ErrArg, and no list.
func refuses(t *testing.T, what string, got []api.Span, e api.Errno) {
	t.Helper()
	if e != api.ErrArg || len(got) != 0 {
		t.Errorf("%s: %v, %d; want ErrArg", what, got, int(e))
	}
}

// P1.1: May.
func TestMay(t *testing.T) {
	for _, s := range []api.Span{sp(0, 1), sp(7, 3), sp(0, api.MaxSectors), sp(1, api.MaxSectors-1), sp(api.MaxSectors-1, 1)} {
		if e := May(s); e != api.OK {
			t.Error(s, int(e))
		}
	}
	for _, s := range badSpans() {
		if e := May(s); e != api.ErrArg {
			t.Error(s, int(e))
		}
	}
}

// P1.1: Check, of all lists of up to three spans of four sectors, against what the words say.
func TestCheck(t *testing.T) {
	for _, base := range bases() {
		eachList(allSpans(base, 4), 3, func(l []api.Span) {
			want := api.OK
			if !slices.Equal(l, setOf(bitsOf(l, base), base)) {
				want = api.ErrArg
			}
			if e := Check(l); e != want {
				t.Error(l, int(e))
			}
		})
	}
	for _, l := range badSets() {
		if e := Check(l); e != api.ErrArg {
			t.Error(l, int(e))
		}
	}
	if e := Check([]api.Span{sp(0, 1), sp(2, api.MaxSectors-2)}); e != api.OK {
		t.Error(int(e))
	}
	if Check(nil) != api.OK || Check([]api.Span{}) != api.OK {
		t.Error("an empty list is a set")
	}
}

// eachList calls f with every list of up to n of the spans, in every order.
func eachList(from []api.Span, n int, f func([]api.Span)) {
	var grow func(l []api.Span)
	grow = func(l []api.Span) {
		f(slices.Clone(l))
		if len(l) == n {
			return
		}
		for _, s := range from {
			grow(append(slices.Clone(l), s))
		}
	}
	grow(nil)
}

// P1.1, P1.4: Join of every list of up to three spans is the set of their sectors, in whatever order they come.
func TestJoin(t *testing.T) {
	for _, base := range bases() {
		eachList(allSpans(base, wide), 3, func(l []api.Span) {
			got, e := Join(l...)
			wants(t, "Join", got, e, setOf(bitsOf(l, base), base))
		})
	}
	got, e := Join()
	wants(t, "Join of none", got, e, nil)
	got, e = Join(sp(0, 2), sp(5, 1), sp(2, 3))
	wants(t, "the example", got, e, []api.Span{sp(0, 6)})
	got, e = Join(sp(1, api.MaxSectors-1), sp(0, 1))
	wants(t, "all sectors", got, e, []api.Span{sp(0, api.MaxSectors)})
	for _, s := range badSpans() {
		got, e = Join(s)
		refuses(t, "Join", got, e)
		got, e = Join(sp(0, 1), s, sp(4, 1))
		refuses(t, "Join", got, e)
	}
}

// P1.1, P1.2, P1.4: of all pairs of the model's sets Cut and Meet are what they are sector by sector; they part the set, and Join makes it whole.
func TestCutMeet(t *testing.T) {
	for _, base := range bases() {
		for a := range 1 << wide {
			for b := range 1 << wide {
				l, off := setOf(a, base), setOf(b, base)
				cut, e := Cut(l, off...)
				wants(t, "Cut", cut, e, setOf(a&^b, base))
				meet, e := Meet(l, off)
				wants(t, "Meet", meet, e, setOf(a&b, base))
				whole, e := Join(append(cut, meet...)...)
				wants(t, "Join of parts", whole, e, l)
				none, e := Meet(cut, off)
				wants(t, "what is cut off", none, e, nil)
				if Total(cut)+Total(meet) != Total(l) {
					t.Error(l, off, cut, meet)
				}
			}
		}
	}
}

// P1.1: what is cut off need be no set: spans in any order, twice, one over the other.
func TestCutBySpans(t *testing.T) {
	for _, base := range bases() {
		for a := range 1 << 5 {
			eachList(allSpans(base, 5), 2, func(off []api.Span) {
				cut, e := Cut(setOf(a, base), off...)
				wants(t, "Cut", cut, e, setOf(a&^bitsOf(off, base), base))
			})
		}
	}
	cut, e := Cut([]api.Span{sp(0, 6)}, sp(1, 2))
	wants(t, "the example", cut, e, []api.Span{sp(0, 1), sp(3, 3)})
	cut, e = Cut([]api.Span{sp(0, api.MaxSectors)}, sp(9, 1), sp(0, 9), sp(10, api.MaxSectors-11))
	wants(t, "all but the last", cut, e, []api.Span{sp(api.MaxSectors-1, 1)})
}

// P1.1, P1.2: what is no set, and what may not be, is refused in each place.
func TestCutMeetGapsRefuse(t *testing.T) {
	good := []api.Span{sp(0, 1), sp(3, 2)}
	for _, bad := range badSets() {
		got, e := Cut(bad)
		refuses(t, "Cut", got, e)
		got, e = Cut(bad, sp(0, 9))
		refuses(t, "Cut", got, e)
		got, e = Meet(bad, good)
		refuses(t, "Meet", got, e)
		got, e = Meet(good, bad)
		refuses(t, "Meet", got, e)
		got, e = Meet(nil, bad)
		refuses(t, "Meet", got, e)
		got, e = Meet(bad, nil)
		refuses(t, "Meet", got, e)
		got, e = Gaps(bad, sp(0, 9))
		refuses(t, "Gaps", got, e)
	}
	for _, bad := range badSpans() {
		got, e := Cut(good, bad)
		refuses(t, "Cut", got, e)
		got, e = Cut(nil, sp(0, 1), bad)
		refuses(t, "Cut", got, e)
		got, e = Gaps(good, bad)
		refuses(t, "Gaps", got, e)
		got, e = Gaps(nil, bad)
		refuses(t, "Gaps", got, e)
	}
}

// P1.2, P1.4: Gaps of all the model's sets within all its spans; with Meet they part the span.
func TestGaps(t *testing.T) {
	for _, base := range bases() {
		for a := range 1 << wide {
			for _, within := range allSpans(base, wide) {
				l, one := setOf(a, base), []api.Span{within}
				gaps, e := Gaps(l, within)
				wants(t, "Gaps", gaps, e, setOf(bitsOf(one, base)&^a, base))
				meet, e := Meet(l, one)
				wants(t, "Meet", meet, e, setOf(bitsOf(one, base)&a, base))
				whole, e := Join(append(gaps, meet...)...)
				wants(t, "Join of parts", whole, e, one)
			}
		}
	}
	gaps, e := Gaps([]api.Span{sp(2, 2)}, sp(0, 5))
	wants(t, "the example", gaps, e, []api.Span{sp(0, 2), sp(4, 1)})
	gaps, e = Gaps(nil, sp(0, api.MaxSectors))
	wants(t, "of no set at all", gaps, e, []api.Span{sp(0, api.MaxSectors)})
	gaps, e = Gaps([]api.Span{sp(0, api.MaxSectors)}, sp(0, api.MaxSectors))
	wants(t, "of all sectors", gaps, e, nil)
}

// P1.2: Total and Has of all the model's sets, and of what is no set.
func TestTotalHas(t *testing.T) {
	for _, base := range bases() {
		for a := range 1 << wide {
			l, n := setOf(a, base), 0
			for i := -2; i < wide+2; i++ {
				in := i >= 0 && i < wide && a>>i&1 == 1
				if in {
					n++
				}
				if Has(l, base+i) != in {
					t.Error(l, base+i, !in)
				}
			}
			if Total(l) != n {
				t.Error(l, Total(l))
			}
		}
	}
	all := []api.Span{sp(0, api.MaxSectors)}
	if Total(all) != api.MaxSectors || !Has(all, 0) || !Has(all, api.MaxSectors-1) {
		t.Error(Total(all))
	}
	for _, at := range []int{-1, api.MaxSectors, math.MaxInt, math.MinInt} {
		if Has(all, at) || Has(nil, at) {
			t.Error(at)
		}
	}
	for _, l := range badSets() {
		if Total(l) != 0 {
			t.Error(l, Total(l))
		}
		for at := range 10 {
			if Has(l, at) {
				t.Error(l, at)
			}
		}
	}
}

// P1.3: Fit of all the model's sets, spans and counts is the first run of that many sectors that are free.
func TestFit(t *testing.T) {
	for _, base := range bases() {
		for a := range 1 << wide {
			for _, within := range allSpans(base, wide) {
				for n := 1; n <= wide+1; n++ {
					want, e := slowFit(a, base, within, n)
					if got, f := Fit(setOf(a, base), within, n); got != want || f != e {
						t.Fatal(setOf(a, base), within, n, got, int(f))
					}
				}
			}
		}
	}
	if s, e := Fit([]api.Span{sp(2, 2)}, sp(0, 5), 2); s != sp(0, 2) || e != api.OK {
		t.Error(s, int(e))
	}
	if s, e := Fit(nil, sp(0, api.MaxSectors), api.MaxSectors); s != sp(0, api.MaxSectors) || e != api.OK {
		t.Error(s, int(e))
	}
	if s, e := Fit(nil, sp(0, api.MaxSectors), math.MaxInt); s != (api.Span{}) || e != api.ErrNone {
		t.Error(s, int(e))
	}
}

// slowFit tries each place.
func slowFit(a, base int, within api.Span, n int) (api.Span, api.Errno) {
	for at := within.At; at+n <= within.End(); at++ {
		if bitsOf([]api.Span{sp(at, n)}, base)&a == 0 {
			return sp(at, n), api.OK
		}
	}
	return api.Span{}, api.ErrNone
}

// P1.3, R1: Fit refuses as Gaps does, and an n below 1, also where nothing is free.
func TestFitRefuses(t *testing.T) {
	refused := func(l []api.Span, within api.Span, n int) {
		t.Helper()
		if s, e := Fit(l, within, n); s != (api.Span{}) || e != api.ErrArg {
			t.Error(l, within, n, s, int(e))
		}
	}
	for _, n := range []int{0, -1, math.MinInt} {
		refused(nil, sp(0, 5), n)
		refused([]api.Span{sp(0, 5)}, sp(0, 5), n)
	}
	for _, l := range badSets() {
		refused(l, sp(0, 5), 1)
		refused(l, sp(0, 5), api.MaxSectors+1)
	}
	for _, s := range badSpans() {
		refused(nil, s, 1)
		refused(nil, s, api.MaxSectors+1)
	}
}

// R2: no call writes into what it was handed, nor behind its length.
func TestNothingIsWrittenInto(t *testing.T) {
	whole := []api.Span{sp(6, 2), sp(0, 3), sp(2, 1), sp(9, 9), sp(7, 7)}
	kept := slices.Clone(whole)
	set := []api.Span{sp(1, 2), sp(4, 2), sp(9, 1), sp(8, 8), sp(5, 5)}
	setKept := slices.Clone(set)
	loose, l := whole[:3], set[:3]
	for range 2 {
		Check(l)
		Join(loose...)
		Join(l...)
		Cut(l, loose...)
		Cut(l)
		Meet(l, l)
		Gaps(l, sp(0, 12))
		Total(l)
		Has(l, 4)
		Fit(l, sp(0, 12), 2)
	}
	if !slices.Equal(whole, kept) || !slices.Equal(set, setKept) {
		t.Error(whole, set)
	}
}

// R2: what is answered shares no memory with what was handed in.
func TestAnswersAreTheCallers(t *testing.T) {
	l := []api.Span{sp(1, 2), sp(4, 2)}
	kept := slices.Clone(l)
	join, _ := Join(l...)
	cut, _ := Cut(l)
	meet, _ := Meet(l, l)
	gaps, _ := Gaps(l, sp(0, 9))
	for _, got := range [][]api.Span{join, cut, meet, gaps} {
		if len(got) == 0 {
			t.Fatal("an answer is missing")
		}
		for i := range got {
			got[i] = api.Span{}
		}
	}
	if !slices.Equal(l, kept) {
		t.Error(l)
	}
}

// P1.1, P1.2: the greatest sets there are, every second sector.
func TestGreatestSets(t *testing.T) {
	var even, odd []api.Span
	for at := 0; at < api.MaxSectors; at += 2 {
		even, odd = append(even, sp(at, 1)), append(odd, sp(at+1, 1))
	}
	back := slices.Clone(even)
	slices.Reverse(back)
	got, e := Join(append(back, odd...)...)
	wants(t, "Join", got, e, []api.Span{sp(0, api.MaxSectors)})
	got, e = Join(back...)
	wants(t, "Join from behind", got, e, even)
	got, e = Meet(even, odd)
	wants(t, "Meet", got, e, nil)
	got, e = Cut(even, odd...)
	wants(t, "Cut", got, e, even)
	got, e = Gaps(even, sp(0, api.MaxSectors))
	wants(t, "Gaps", got, e, odd)
	if s, e := Fit(even, sp(0, api.MaxSectors), 2); s != (api.Span{}) || e != api.ErrNone {
		t.Error(s, int(e))
	}
	if Total(even) != api.MaxSectors/2 || !Has(even, api.MaxSectors-2) || Has(even, api.MaxSectors-1) {
		t.Error(Total(even))
	}
}
