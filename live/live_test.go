package live

import (
	"maps"
	"math"
	"slices"
	"testing"

	"lighter/api"
)

func row(seq, total, live int) Row { return Row{Seq: seq, Total: total, Live: live} }

func ext(at, n, seq, to int) api.Extent {
	return api.Extent{Span: api.Span{At: at, Len: n}, Spot: api.Spot{Seq: seq, At: to}}
}

// in is so many sectors of an object.
func in(seq, n int) api.Extent { return ext(3, n, seq, 7) }

func list(l ...api.Extent) []api.Extent { return l }

// made is a table of rows, and its model.
func made(t *testing.T, l ...Row) (*Table, model) {
	t.Helper()
	x, m := New(), model(slices.Clone(l))
	if e := x.Add(l...); e != api.OK {
		t.Fatalf("Add of %v: %v", l, e)
	}
	return x, m
}

// is fails unless a call answered an error, or none.
func is(t *testing.T, what string, e, want api.Errno) {
	t.Helper()
	if e != want {
		t.Errorf("%s: %v; want %v", what, e, want)
	}
}

const lastSeq = api.MaxSeq - 1

// badRows is rows that may not be.
func badRows() []Row {
	return []Row{
		{}, row(0, 4, 2), row(-1, 4, 2), row(api.MaxSeq, 4, 2), row(api.MaxSeq+1, 4, 2), row(math.MaxInt, 4, 2), row(math.MinInt, 4, 2),
		row(9, -1, 0), row(9, -1, -1), row(9, -1, -2), row(9, api.MaxSectors+1, 0), row(9, api.MaxSectors+1, api.MaxSectors+1), row(9, math.MaxInt, 1), row(9, math.MinInt, 1),
		row(9, 4, -1), row(9, 4, 5), row(9, 0, 1), row(9, 0, -1), row(9, api.MaxSectors, api.MaxSectors+1), row(9, 4, math.MaxInt), row(9, 4, math.MinInt),
	}
}

// badExtents is extents that may not be, of the log, of objects that are in a table, and of others.
func badExtents() []api.Extent {
	l := list(ext(0, 1, -1, 0), ext(0, 1, api.MaxSeq, 0), ext(0, 1, math.MaxInt, 0), ext(0, 1, math.MinInt, 0))
	for _, seq := range []int{0, 1, 2, 77, lastSeq} {
		l = append(l,
			ext(0, 0, seq, 0), ext(0, -1, seq, 0), ext(-1, 1, seq, 0), ext(0, api.MaxSectors+1, seq, 0), ext(1, api.MaxSectors, seq, 0), ext(api.MaxSectors, 1, seq, 0),
			ext(math.MaxInt, 1, seq, 0), ext(1, math.MaxInt, seq, 0), ext(math.MinInt, math.MinInt, seq, 0),
			ext(0, 1, seq, -1), ext(0, 1, seq, api.MaxSeq), ext(0, 1, seq, math.MaxInt), ext(0, 1, seq, math.MinInt))
	}
	return l
}

// The chapter's example.
func TestExample(t *testing.T) {
	x, _ := made(t, row(1, 10, 3), row(2, 4, 4), row(3, 6, 1))
	if l := x.Victims(50); !slices.Equal(l, []int{3, 1}) {
		t.Error(l)
	}
	if p := Part(row(1, 10, 3)); p != 0.3 {
		t.Error(p)
	}
}

// P8.1: a new table has no rows, and is one of its own.
func TestNew(t *testing.T) {
	x := New()
	same(t, x, nil)
	_, e := x.Get(1)
	is(t, "Get", e, api.ErrNone)
	is(t, "Drop", x.Drop(1), api.ErrNone)
	is(t, "Add of nothing", x.Add(), api.OK)
	is(t, "Change of nothing", x.Change(nil, nil), api.OK)
	is(t, "Change", x.Change(list(in(1, 1)), nil), api.ErrNone)
	if l := x.Victims(math.MaxInt); len(l) != 0 {
		t.Error(l)
	}
	x.Add(row(1, 1, 1))
	same(t, New(), nil)
}

// P8.1: rows at the edges of what may be are taken, and are told by rising numbers.
func TestAddAtEdges(t *testing.T) {
	l := []Row{row(lastSeq, api.MaxSectors, api.MaxSectors), row(4, 0, 0), row(1, api.MaxSectors, 0), row(256, 1, 1), row(2, 1, 0), row(lastSeq-1, 0, 0)}
	x, m := made(t, l...)
	same(t, x, m)
	y := New()
	for i, r := range l {
		is(t, "Add", y.Add(r), api.OK)
		same(t, y, m[:i+1])
	}
}

// P8.1, R1: with a row that may not be, or is there, nothing is done, wherever it stands; what may not be comes first.
func TestAddRefuses(t *testing.T) {
	x, m := made(t, row(1, 10, 3), row(2, 4, 4))
	for _, bad := range badRows() {
		for _, l := range [][]Row{
			{bad}, {bad, row(5, 1, 1)}, {row(5, 1, 1), bad}, {row(5, 1, 1), bad, row(6, 1, 1)},
			{row(1, 1, 1), bad}, {bad, row(1, 1, 1)}, {row(5, 1, 1), row(5, 1, 1), bad},
		} {
			is(t, "Add of what may not be", x.Add(l...), api.ErrArg)
			same(t, x, m)
		}
	}
	for _, l := range [][]Row{
		{row(1, 10, 3)}, {row(2, 1, 1)}, {row(5, 1, 1), row(2, 4, 4)}, {row(2, 4, 4), row(5, 1, 1)}, {row(5, 1, 1), row(1, 1, 1), row(6, 1, 1)},
		{row(5, 1, 1), row(5, 1, 1)}, {row(5, 1, 1), row(5, 2, 0)}, {row(5, 1, 1), row(6, 1, 1), row(5, 1, 1)}, {row(6, 1, 1), row(5, 1, 1), row(5, 1, 1), row(7, 1, 1)},
	} {
		is(t, "Add of what is there", x.Add(l...), api.ErrThere)
		same(t, x, m)
	}
	is(t, "Add of what was refused", x.Add(row(5, 1, 1), row(6, 1, 1), row(9, 4, 4)), api.OK)
}

// P8.1: Drop takes one away, which may be added anew; of what is not there it is ErrNone.
func TestDrop(t *testing.T) {
	x, m := made(t, row(1, 10, 3), row(2, 4, 4), row(lastSeq, 6, 1))
	for _, seq := range []int{0, -1, 3, lastSeq - 1, api.MaxSeq, math.MaxInt, math.MinInt} {
		is(t, "Drop of what is not there", x.Drop(seq), api.ErrNone)
		if r, e := x.Get(seq); r != (Row{}) || e != api.ErrNone {
			t.Error(seq, r, e)
		}
		same(t, x, m)
	}
	for _, seq := range []int{2, lastSeq, 1} {
		is(t, "Drop", x.Drop(seq), m.drop(seq))
		is(t, "Drop once more", x.Drop(seq), api.ErrNone)
		if r, e := x.Get(seq); r != (Row{}) || e != api.ErrNone {
			t.Error(seq, r, e)
		}
		same(t, x, m)
	}
	is(t, "Add anew", x.Add(row(2, 5, 0)), m.add(row(2, 5, 0)))
	same(t, x, m)
}

// P8.2: Count is by rising numbers, sums up all extents of an object, and leaves out the log.
func TestCount(t *testing.T) {
	for _, c := range []struct {
		l    []api.Extent
		want []Row
	}{
		{nil, nil},
		{list(in(0, 5)), nil},
		{list(in(7, 3), in(1, 2), in(0, 5), in(7, 1)), []Row{row(1, 2, 2), row(7, 4, 4)}},
		{list(in(lastSeq, 1), in(256, 2), in(1, 3), in(255, 4)), []Row{row(1, 3, 3), row(255, 4, 4), row(256, 2, 2), row(lastSeq, 1, 1)}},
		{list(in(1, 1), in(1, 1), in(1, 1)), []Row{row(1, 3, 3)}},
		{list(ext(0, 1, 1, 0), ext(api.MaxSectors-1, 1, 1, lastSeq)), []Row{row(1, 2, 2)}},
		{list(ext(0, api.MaxSectors, 5, 0)), []Row{row(5, api.MaxSectors, api.MaxSectors)}},
		{list(ext(0, api.MaxSectors, 5, 0), in(5, 1), ext(0, api.MaxSectors, 5, 9)), []Row{row(5, 2*api.MaxSectors+1, 2*api.MaxSectors+1)}},
	} {
		if got := Count(c.l...); !slices.Equal(got, c.want) {
			t.Errorf("Count of %v: %v; want %v", c.l, got, c.want)
		}
	}
}

// P8.2: Count of extents of which one may not be is nothing.
func TestCountRefuses(t *testing.T) {
	for _, x := range badExtents() {
		for _, l := range [][]api.Extent{{x}, {x, in(1, 1)}, {in(1, 1), x}, {in(1, 1), x, in(2, 2)}} {
			if got := Count(l...); len(got) != 0 {
				t.Error(l, got)
			}
		}
	}
}

// P8.2: Change, at its edges: what is told is done together, to the last sector.
func TestChange(t *testing.T) {
	for _, c := range []struct {
		more, less []api.Extent
		want       []Row
	}{
		{nil, nil, []Row{row(1, 10, 3), row(2, 4, 4), row(5, 0, 0)}},
		{list(in(1, 7)), nil, []Row{row(1, 10, 10), row(2, 4, 4), row(5, 0, 0)}},
		{nil, list(in(1, 3)), []Row{row(1, 10, 0), row(2, 4, 4), row(5, 0, 0)}},
		{list(in(1, 5), in(1, 2)), list(in(2, 1), in(2, 3)), []Row{row(1, 10, 10), row(2, 4, 0), row(5, 0, 0)}},
		{list(in(1, 8), in(0, 99)), list(in(1, 1), in(2, 3)), []Row{row(1, 10, 10), row(2, 4, 1), row(5, 0, 0)}},
		{list(in(2, 90)), list(in(2, 94)), []Row{row(1, 10, 3), row(2, 4, 0), row(5, 0, 0)}},
		{list(in(1, 107)), list(in(1, 100)), []Row{row(1, 10, 10), row(2, 4, 4), row(5, 0, 0)}},
		{list(in(5, 6)), list(in(5, 6)), []Row{row(1, 10, 3), row(2, 4, 4), row(5, 0, 0)}},
		{list(in(0, 9)), list(in(0, 5000)), []Row{row(1, 10, 3), row(2, 4, 4), row(5, 0, 0)}},
	} {
		x, _ := made(t, row(1, 10, 3), row(2, 4, 4), row(5, 0, 0))
		is(t, "Change", x.Change(c.more, c.less), api.OK)
		same(t, x, c.want)
	}
}

// P8.2: a Live may come to be as great as the greatest Total, by many extents on both sides.
func TestChangeOfGreatest(t *testing.T) {
	x, _ := made(t, row(lastSeq, api.MaxSectors, 0))
	whole := ext(0, api.MaxSectors, lastSeq, lastSeq)
	is(t, "Change", x.Change(list(whole, whole, whole), list(whole, whole)), api.OK)
	same(t, x, model{row(lastSeq, api.MaxSectors, api.MaxSectors)})
	is(t, "Change beyond", x.Change(list(in(lastSeq, 1)), nil), api.ErrRange)
	is(t, "Change", x.Change(nil, list(whole)), api.OK)
	same(t, x, model{row(lastSeq, api.MaxSectors, 0)})
	is(t, "Change below", x.Change(nil, list(in(lastSeq, 1))), api.ErrRange)
}

// P8.2, R1: nothing is done with an error; what may not be comes ahead of what is not there, and that ahead of a range.
func TestChangeRefuses(t *testing.T) {
	x, m := made(t, row(1, 10, 3), row(2, 4, 4), row(5, 0, 0), row(lastSeq, 9, 9))
	for _, bad := range badExtents() {
		for _, l := range [][]api.Extent{{bad}, {bad, in(1, 1)}, {in(1, 1), bad}, {in(3, 1), bad}, {in(1, 60), bad}} {
			is(t, "more may not be", x.Change(l, nil), api.ErrArg)
			is(t, "less may not be", x.Change(nil, l), api.ErrArg)
			is(t, "less may not be, more is not there", x.Change(list(in(3, 1)), l), api.ErrArg)
			is(t, "more may not be, less is too many", x.Change(l, list(in(2, 60))), api.ErrArg)
			same(t, x, m)
		}
	}
	for range 20 { // a map is gone through in another order each time
		for _, c := range [][2][]api.Extent{
			{list(in(3, 1)), nil}, {nil, list(in(3, 1))}, {list(in(3, 1)), list(in(3, 1))}, {list(in(1, 1), in(3, 1)), nil}, {list(in(1, 1)), list(in(3, 1))},
			{list(in(1, 8), in(3, 1)), list(in(2, 9))}, {list(in(1, 8)), list(in(2, 9), in(lastSeq-1, 1))},
		} {
			is(t, "an object is not there", x.Change(c[0], c[1]), api.ErrNone)
			same(t, x, m)
		}
		for _, c := range [][2][]api.Extent{
			{list(in(1, 8)), nil}, {nil, list(in(1, 4))}, {nil, list(in(1, 2), in(1, 2))}, {list(in(1, 4), in(1, 4)), nil}, {list(in(5, 1)), nil}, {nil, list(in(5, 1))},
			{list(in(2, 3)), list(in(2, 2))}, {list(in(2, 1)), list(in(2, 6))}, {list(in(1, 1)), list(in(2, 1), in(lastSeq, 10))}, {list(in(1, 8)), list(in(2, 1), in(lastSeq, 1))},
		} {
			is(t, "a range", x.Change(c[0], c[1]), api.ErrRange)
			same(t, x, m)
		}
	}
}

// P8.3: Part, of rows that may be and of others.
func TestPart(t *testing.T) {
	for _, c := range []struct {
		r    Row
		want float64
	}{
		{row(1, 10, 3), 0.3}, {row(1, 4, 4), 1}, {row(1, 4, 0), 0}, {row(1, 3, 1), 1.0 / 3}, {row(1, 6, 2), 1.0 / 3}, {row(1, api.MaxSectors, 1), 1.0 / 65536},
		{row(1, 0, 0), 1}, {Row{}, 1}, {row(-5, 0, 7), 1}, {row(1, 0, -7), 1}, {row(0, 2, 3), 1.5}, {row(1, -4, 1), -0.25}, {row(1, 2, -1), -0.5}, {row(1, 1, math.MaxInt), 1 << 63}, {row(1, math.MinInt, math.MinInt), 1},
	} {
		if got := Part(c.r); got != c.want {
			t.Errorf("Part of %v: %v; want %v", c.r, got, c.want)
		}
	}
}

// P8.3: Victims at its edges: less, not as much; percents of any size; objects without sectors are none.
func TestVictims(t *testing.T) {
	x, m := made(t, row(9, 10, 3), row(2, 4, 4), row(3, 6, 1), row(4, 0, 0), row(5, 20, 6), row(8, 7, 0), row(6, 9, 0), row(lastSeq, 100, 99))
	for _, c := range []struct {
		percent int
		want    []int
	}{
		{math.MinInt, nil}, {math.MinInt / 2, nil}, {-101, nil}, {-1, nil}, {0, nil}, {1, []int{6, 8}}, {16, []int{6, 8}}, {17, []int{6, 8, 3}}, {30, []int{6, 8, 3}}, {31, []int{6, 8, 3, 5, 9}}, {99, []int{6, 8, 3, 5, 9}},
		{100, []int{6, 8, 3, 5, 9, lastSeq}}, {101, []int{6, 8, 3, 5, 9, lastSeq, 2}}, {102, []int{6, 8, 3, 5, 9, lastSeq, 2}}, {1 << 62, []int{6, 8, 3, 5, 9, lastSeq, 2}}, {math.MaxInt, []int{6, 8, 3, 5, 9, lastSeq, 2}},
	} {
		for range 5 {
			if got := x.Victims(c.percent); !slices.Equal(got, c.want) {
				t.Fatalf("Victims of %d: %v; want %v", c.percent, got, c.want)
			}
		}
		if got := m.victims(c.percent); !slices.Equal(got, c.want) {
			t.Fatalf("the model's victims of %d: %v; want %v", c.percent, got, c.want)
		}
	}
	same(t, x, m)
}

// P8.3: parts that are nearly the same are told apart, and those that are the same are not.
func TestVictimsOfNearParts(t *testing.T) {
	const most = api.MaxSectors
	x, m := made(t,
		row(1, most, most-1), row(2, most-1, most-2), row(3, most-2, most-3), row(4, most/2, most/2-1), row(5, 3, 1), row(6, 65535, 21845), row(7, 65534, 21845), row(8, 65536, 21845), row(9, 9, 3),
		row(10, most, 1), row(11, most-1, 1), row(12, most/2, 1), row(13, 49, 7), row(14, 7, 1), row(15, 65527, 9361), row(16, 65534, 9362))
	for percent := range 103 {
		if got, want := x.Victims(percent), m.victims(percent); !slices.Equal(got, want) {
			t.Fatalf("Victims of %d: %v; want %v", percent, got, want)
		}
	}
}

// P8.3: of a nil table ErrNil, nothing, 0, with whatever arguments.
func TestNil(t *testing.T) {
	var x *Table
	is(t, "Add of nothing", x.Add(), api.ErrNil)
	is(t, "Change of nothing", x.Change(nil, nil), api.ErrNil)
	for _, n := range []int{1, 0, -1, math.MaxInt} {
		is(t, "Add", x.Add(row(n, 1, 1)), api.ErrNil)
		is(t, "Drop", x.Drop(n), api.ErrNil)
		is(t, "Change", x.Change(list(in(1, n)), nil), api.ErrNil)
		is(t, "Change", x.Change(nil, list(in(1, n))), api.ErrNil)
		if r, e := x.Get(n); r != (Row{}) || e != api.ErrNil {
			t.Error(r, e)
		}
		if l := x.Victims(n); len(l) != 0 {
			t.Error(l)
		}
	}
	if total, live := x.Sum(); len(x.Rows()) != 0 || total != 0 || live != 0 {
		t.Error(x.Rows(), total, live)
	}
}

// P8.1 to P8.4: long ways of calls against the model.
func TestLongWays(t *testing.T) {
	done := map[api.Errno]int{}
	for seed := range 200 {
		r := rolls(seed)
		x, m := New(), model{}
		for range 200 {
			done[step(t, &r, x, &m)]++
			same(t, x, m)
		}
	}
	for _, e := range []api.Errno{api.OK, api.ErrArg, api.ErrThere, api.ErrNone, api.ErrRange} {
		if done[e] < 100 {
			t.Errorf("the ways come by %v only %d times", e, done[e])
		}
	}
}

// step is one call that turns a table, and, if it is a Change, the way back.
func step(t *testing.T, r *rolls, x *Table, m *model) api.Errno {
	t.Helper()
	percent := r.below(120) - 5
	if got, want := x.Victims(percent), m.victims(percent); !slices.Equal(got, want) {
		t.Fatalf("Victims of %d in %v: %v; want %v", percent, *m, got, want)
	}
	var e, want api.Errno
	switch r.below(5) {
	case 0:
		l := []Row{r.row(), r.row(), r.row()}[r.below(3):]
		e, want = x.Add(l...), m.add(l...)
	case 1:
		seq := 1 + r.below(9)
		e, want = x.Drop(seq), m.drop(seq)
	default:
		more, less := r.extents(2), r.extents(2)
		e, want = x.Change(more, less), m.change(more, less)
		if e == api.OK {
			thereAndBack(t, x, less, more)
		}
	}
	if e != want {
		t.Fatalf("%v; want %v, in %v", e, want, *m)
	}
	return e
}

// thereAndBack fails unless a Change that may be, and its way back, leave a table as it is, and grow its sum as they tell.
func thereAndBack(t *testing.T, x *Table, more, less []api.Extent) {
	t.Helper()
	rows, grows := x.Rows(), 0
	for _, r := range Count(more...) {
		grows += r.Live
	}
	for _, r := range Count(less...) {
		grows -= r.Live
	}
	total, live := x.Sum()
	is(t, "Change", x.Change(more, less), api.OK)
	if gotTotal, gotLive := x.Sum(); gotTotal != total || gotLive != live+grows {
		t.Fatalf("Sum: %d, %d; want %d, %d", gotTotal, gotLive, total, live+grows)
	}
	is(t, "Change back", x.Change(less, more), api.OK)
	if got := x.Rows(); !slices.Equal(got, rows) {
		t.Fatalf("Rows: %v; want %v", got, rows)
	}
}

// P8.4: Change and back is as if none had been, and the sum of Lives grows by what more has, less what less has.
func TestThereAndBack(t *testing.T) {
	x, m := made(t, row(1, 10, 3), row(2, 4, 4), row(3, 6, 1))
	thereAndBack(t, x, list(in(1, 7), in(3, 5)), list(in(2, 4)))
	thereAndBack(t, x, nil, list(in(1, 3), in(2, 4), in(3, 1)))
	thereAndBack(t, x, list(in(0, 7), in(2, 5)), list(in(2, 5), in(0, 1)))
	same(t, x, m)
}

// P8.4: of percent 0 there is no victim, and with a greater percent all those of the lesser one, in the same order.
func TestMorePercent(t *testing.T) {
	for seed := range 40 {
		r := rolls(seed)
		x := New()
		for range 30 {
			x.Add(r.row())
		}
		ahead := x.Victims(0)
		if len(ahead) != 0 {
			t.Fatal(ahead)
		}
		for percent := range 110 {
			l := x.Victims(percent)
			if len(l) < len(ahead) || !slices.Equal(l[:len(ahead)], ahead) {
				t.Fatal(percent, l, ahead)
			}
			ahead = l
		}
	}
}

// R2: no call writes into what it was handed, nor behind its length, nor keeps it.
func TestNothingIsWrittenInto(t *testing.T) {
	rows := []Row{row(3, 6, 1), row(1, 10, 3), row(2, 4, 4), row(7, 7, 7), row(8, 8, 8)}
	more := list(in(3, 1), in(1, 2), in(0, 5), in(9, 9), in(8, 8))
	less := list(in(2, 1), in(1, 1), in(2, 1), in(6, 6), in(5, 5))
	rowsKept, moreKept, lessKept := slices.Clone(rows), slices.Clone(more), slices.Clone(less)
	x := New()
	for n := range 4 {
		x.Add(rows[:n]...)
		for _, r := range rows[:n] {
			x.Drop(r.Seq)
		}
	}
	x.Add(rows[:3]...)
	for n := range 4 {
		x.Change(more[:n], less[:n])
		x.Change(less[:n], more[:n])
		Count(more[:n]...)
	}
	if !slices.Equal(rows, rowsKept) || !slices.Equal(more, moreKept) || !slices.Equal(less, lessKept) {
		t.Error(rows, more, less)
	}
	clear(rows)
	clear(more)
	clear(less)
	same(t, x, rowsKept[:3])
}

// spoil writes over a list, and behind its length.
func spoil[T any](l []T) {
	clear(l[:cap(l)])
}

// R2: what is answered is the caller's, and stays as it is.
func TestAnswersAreTheCallers(t *testing.T) {
	x, m := made(t, row(1, 10, 3), row(2, 4, 4), row(3, 6, 1))
	rows, victims := x.Rows(), x.Victims(50)
	spoil(x.Rows())
	spoil(x.Victims(50))
	spoil(Count(in(1, 1), in(2, 1)))
	same(t, x, m)
	x.Change(list(in(1, 7)), list(in(2, 4)))
	x.Drop(3)
	if !slices.Equal(rows, m.rows()) || !slices.Equal(victims, []int{3, 1}) {
		t.Error(rows, victims)
	}
}

// P8.1 to P8.3: a table of many objects.
func TestManyObjects(t *testing.T) {
	const n = 1 << 16
	whole := map[int]Row{}
	var more []api.Extent
	for i := range n {
		seq := 1 + i*40503%n // each once, in no order
		whole[seq] = row(seq, 100, seq%100)
		more = append(more, in(seq, 1))
	}
	x := New()
	is(t, "Add", x.Add(slices.Collect(maps.Values(whole))...), api.OK)
	is(t, "Change", x.Change(more, nil), api.OK)
	l := x.Rows()
	if len(l) != n {
		t.Fatal(len(l))
	}
	for i, r := range l {
		if want := row(i+1, 100, (i+1)%100+1); r != want {
			t.Fatal(r, want)
		}
	}
	if got := len(x.Victims(100)); got != n-n/100 {
		t.Error(got)
	}
	if total, _ := x.Sum(); total != 100*n {
		t.Error(total)
	}
}
