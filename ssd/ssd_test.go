package ssd

import (
	"math"
	"slices"
	"strings"
	"testing"

	"lighter/api"
)

// full is whole sectors, one for each letter.
func full(letters string) string {
	out := ""
	for _, c := range letters {
		out += strings.Repeat(string(c), api.Sector)
	}
	return out
}

// half is half a sector.
func half(letter string) string { return strings.Repeat(letter, api.Sector/2) }

func device(t *testing.T, sectors int) *SSD {
	t.Helper()
	d, e := New(sectors)
	if d == nil || e != api.OK {
		t.Fatal(sectors, e)
	}
	return d
}

func write(t *testing.T, d *SSD, at int, data string) {
	t.Helper()
	if e := d.Write(at, data); e != api.OK {
		t.Fatal(at, len(data), e)
	}
}

func barrier(t *testing.T, d *SSD) {
	t.Helper()
	if e := d.Barrier(); e != api.OK {
		t.Fatal(e)
	}
}

// all is each byte that the device has.
func all(t *testing.T, d *SSD) string {
	t.Helper()
	s, e := d.Read(0, d.Sectors())
	if e != api.OK {
		t.Fatal(e)
	}
	return s
}

func want(t *testing.T, d *SSD, bytes string, pending int) {
	t.Helper()
	if got := all(t, d); got != bytes || d.Pending() != pending {
		t.Errorf("%q with %d pending, want %q with %d", got, d.Pending(), bytes, pending)
	}
}

// P4.1: how many sectors there may be, and that all bytes are 0.
func TestNew(t *testing.T) {
	for _, n := range []int{0, -1, api.MaxSectors + 1, math.MaxInt, math.MinInt} {
		if d, e := New(n); d != nil || e != api.ErrArg {
			t.Error(n, d != nil, e)
		}
	}
	for _, n := range []int{1, 2, 3, api.MaxSectors - 1, api.MaxSectors} {
		d := device(t, n)
		if d.Sectors() != n || d.Lost() {
			t.Error(n, d.Sectors(), d.Lost())
		}
		want(t, d, strings.Repeat("\x00", n*api.Sector), 0)
	}
}

// P4.1: each piece of the device is what was written there last.
func TestReadPieces(t *testing.T) {
	const letters = "abcde"
	d := device(t, len(letters))
	write(t, d, 0, full(letters))
	for at := 0; at <= len(letters); at++ {
		for n := 0; at+n <= len(letters); n++ {
			if got, e := d.Read(at, n); got != full(letters[at:at+n]) || e != api.OK {
				t.Errorf("%d %d: %q %v", at, n, got, e)
			}
		}
	}
	want(t, d, full(letters), 5)
}

// P4.1: the bytes of a sector keep their places, and may be any.
func TestEachByte(t *testing.T) {
	d := device(t, 4)
	data := make([]byte, 256)
	for i := range data {
		data[i] = byte(255 - i)
	}
	write(t, d, 0, string(data))
	want(t, d, string(data), 4)
	d.Crash(1, 1, 1, 1)
	want(t, d, string(data), 0)
}

// P4.1: what is wrong with a read, the first named first.
func TestReadWrong(t *testing.T) {
	d := device(t, 3)
	write(t, d, 0, full("abc"))
	for _, c := range []struct {
		at, n int
		e     api.Errno
	}{
		{-1, 1, api.ErrArg}, {0, -1, api.ErrArg}, {-1, -1, api.ErrArg}, {-1, 9, api.ErrArg}, {9, -1, api.ErrArg},
		{math.MinInt, 1, api.ErrArg}, {1, math.MinInt, api.ErrArg}, {-1, 0, api.ErrArg},
		{0, 4, api.ErrRange}, {1, 3, api.ErrRange}, {3, 1, api.ErrRange}, {4, 0, api.ErrRange}, {4, 1, api.ErrRange},
		{1, math.MaxInt, api.ErrRange}, {math.MaxInt, 1, api.ErrRange}, {math.MaxInt, math.MaxInt, api.ErrRange},
		{math.MaxInt, 0, api.ErrRange}, {2, math.MaxInt - 1, api.ErrRange},
	} {
		if s, e := d.Read(c.at, c.n); s != "" || e != c.e {
			t.Error(c.at, c.n, len(s), e, c.e)
		}
	}
	want(t, d, full("abc"), 3)
}

// P4.1: what is wrong with a write, the first named first; it changes nothing.
func TestWriteWrong(t *testing.T) {
	d := device(t, 3)
	write(t, d, 1, full("b"))
	was := all(t, d)
	for _, c := range []struct {
		at   int
		data string
		e    api.Errno
	}{
		{-1, "", api.ErrArg}, {-1, full("x"), api.ErrArg}, {-1, "x", api.ErrArg}, {math.MinInt, full("xxxx"), api.ErrArg},
		{0, "x", api.ErrAlign}, {0, full("x")[1:], api.ErrAlign}, {0, full("x") + "y", api.ErrAlign},
		{9, "x", api.ErrAlign}, {0, full("xxxx") + "y", api.ErrAlign}, {math.MaxInt, "x", api.ErrAlign},
		{0, full("xxxx"), api.ErrRange}, {2, full("xx"), api.ErrRange}, {3, full("x"), api.ErrRange},
		{4, "", api.ErrRange}, {4, full("x"), api.ErrRange},
		{math.MaxInt, "", api.ErrRange}, {math.MaxInt, full("x"), api.ErrRange}, {math.MaxInt - 1, full("xxx"), api.ErrRange},
	} {
		if e := d.Write(c.at, c.data); e != c.e {
			t.Error(c.at, len(c.data), e, c.e)
		}
		want(t, d, was, 1)
	}
	for at := 0; at <= 3; at++ {
		write(t, d, at, "")
	}
	want(t, d, was, 1)
}

// P4.1: pending writes are one a sector a time, till a barrier.
func TestPending(t *testing.T) {
	d := device(t, 3)
	write(t, d, 0, full("abc"))
	want(t, d, full("abc"), 3)
	write(t, d, 1, full("d"))
	write(t, d, 1, full("d"))
	want(t, d, full("adc"), 5)
	barrier(t, d)
	want(t, d, full("adc"), 0)
	barrier(t, d)
	d.Crash(1, 1, 1)
	want(t, d, full("adc"), 0)
	write(t, d, 2, full("e"))
	want(t, d, full("ade"), 1)
}

// P4.1 to P4.3: calls of a nil device answer as the chapter says, whatever they are given.
func TestNil(t *testing.T) {
	var d *SSD
	for _, at := range []int{-1, 0, 9} {
		if s, e := d.Read(at, at); s != "" || e != api.ErrNil {
			t.Error(at, s, e)
		}
		for _, data := range []string{"", "x", full("x")} {
			if e := d.Write(at, data); e != api.ErrNil {
				t.Error(at, e)
			}
		}
	}
	d.Crash()
	d.Crash(1, 2)
	d.Lose()
	d.Stop(0)
	if e := d.Barrier(); e != api.ErrNil || d.Lost() || d.Sectors() != 0 || d.Pending() != 0 || d.Copy() != nil {
		t.Error("nil", e)
	}
}

// P4.2: the chapter's examples.
func TestExamples(t *testing.T) {
	d := device(t, 1)
	write(t, d, 0, full("a"))
	barrier(t, d)
	write(t, d, 0, full("b"))
	other := d.Copy()
	d.Crash(2)
	want(t, d, half("b")+half("a"), 0)
	other.Crash()
	want(t, other, full("a"), 0)
}

// P4.2: each number is one of three fates, by what it leaves divided by 3.
func TestFates(t *testing.T) {
	results := []string{full("a"), full("b"), half("b") + half("a")}
	try := func(keep, fate int) {
		t.Helper()
		d := device(t, 1)
		write(t, d, 0, full("a"))
		barrier(t, d)
		write(t, d, 0, full("b"))
		d.Crash(keep)
		want(t, d, results[fate], 0)
	}
	for i := -30; i < 30; i++ {
		try(i, (i+30)%3)
	}
	// 2 to the power of 63 leaves 2: the greatest number leaves 1, and the least one, -2^63, 1 as well.
	try(math.MaxInt64, 1)
	try(math.MaxInt64-1, 0)
	try(math.MinInt64, 1)
	try(math.MinInt64+1, 2)
	try(math.MinInt64+2, 0)
}

// P4.2: the fates go with the writes in the order in which they were written.
func TestCrashOrder(t *testing.T) {
	for _, c := range []struct {
		keep []int
		want string
	}{
		{nil, full("az")},
		{[]int{1}, full("bz")},
		{[]int{0, 1}, full("ad")},
		{[]int{0, 0, 1}, full("cz")},
		{[]int{1, 1, 1}, full("cd")},
		{[]int{1, 1, 2}, half("c") + half("b") + full("d")},
		{[]int{0, 1, 2}, half("c") + half("a") + full("d")},
		{[]int{2, 2}, half("b") + half("a") + half("d") + half("z")},
		{[]int{2, 0, 2}, half("c") + half("a") + full("z")},
		{[]int{2, 0, 1}, full("cz")},
		{[]int{1, 0, 0, 1, 1, 1}, full("bz")},
	} {
		d := device(t, 2)
		write(t, d, 0, full("az"))
		barrier(t, d)
		write(t, d, 0, full("bd"))
		write(t, d, 0, full("c"))
		d.Crash(c.keep...)
		want(t, d, c.want, 0)
		d.Crash(1, 1, 1)
		want(t, d, c.want, 0)
	}
}

// What a torn sector keeps of old is lasting from then on, and torn again if it must be.
func TestTornTwice(t *testing.T) {
	d := device(t, 1)
	write(t, d, 0, half("a")+half("b"))
	barrier(t, d)
	write(t, d, 0, half("c")+half("d"))
	d.Crash(2)
	want(t, d, half("c")+half("b"), 0)
	write(t, d, 0, half("e")+half("f"))
	write(t, d, 0, half("g")+half("h"))
	d.Crash(1, 2)
	want(t, d, half("g")+half("f"), 0)
}

// R2: the fates that are handed in stay as they are, those behind their length too.
func TestKeepUntouched(t *testing.T) {
	d := device(t, 4)
	write(t, d, 0, full("abcd"))
	keep := []int{1, 2, 5, 7}
	d.Crash(keep[:2]...)
	if !slices.Equal(keep, []int{1, 2, 5, 7}) {
		t.Error(keep)
	}
	want(t, d, full("a")+half("b")+strings.Repeat("\x00", 160), 0)
}

// P4.2: a device that is lost is so for ever, and that is told ahead of all else.
func TestLose(t *testing.T) {
	d := device(t, 2)
	write(t, d, 0, full("ab"))
	d.Lose()
	check := func() {
		t.Helper()
		for _, at := range []int{-1, 0, 2, 3} {
			if s, e := d.Read(at, 1); s != "" || e != api.ErrDead {
				t.Error(at, len(s), e)
			}
			for _, data := range []string{"", "x", full("x")} {
				if e := d.Write(at, data); e != api.ErrDead {
					t.Error(at, e)
				}
			}
		}
		if e := d.Barrier(); e != api.ErrDead || !d.Lost() || d.Sectors() != 2 {
			t.Error(e, d.Lost(), d.Sectors())
		}
	}
	check()
	if d.Pending() != 2 {
		t.Error(d.Pending())
	}
	d.Stop(5)
	check()
	d.Stop(-1)
	check()
	d.Crash(1, 1)
	check()
	if d.Pending() != 0 || !d.Copy().Lost() {
		t.Error(d.Pending())
	}
	d.Lose()
	check()
}

// turns are writes and barriers that each count, those that fail too.
func turns() []func(d *SSD) api.Errno {
	return []func(d *SSD) api.Errno{
		func(d *SSD) api.Errno { return d.Write(0, full("x")) },
		func(d *SSD) api.Errno { return d.Write(-1, "") },
		func(d *SSD) api.Errno { return d.Barrier() },
		func(d *SSD) api.Errno { return d.Write(0, "x") },
		func(d *SSD) api.Errno { return d.Write(0, "") },
		func(d *SSD) api.Errno { return d.Write(9, "") },
	}
}

// P4.3: as many calls are done as ever; those behind answer ErrDead, and do nothing.
func TestStop(t *testing.T) {
	answers := []api.Errno{api.OK, api.ErrArg, api.OK, api.ErrAlign, api.OK, api.ErrRange}
	for n := 0; n < 20; n++ {
		d := device(t, 1)
		d.Stop(n)
		for i := 0; i < 24; i++ {
			was, pending := all(t, d), d.Pending()
			expect := answers[i%6]
			if i >= n {
				expect = api.ErrDead
			}
			if e := turns()[i%6](d); e != expect {
				t.Error(n, i, e, expect)
			}
			if i >= n {
				want(t, d, was, pending)
			}
		}
	}
}

// P4.3: at first, and of a number below 0, all calls are done.
func TestStopNever(t *testing.T) {
	for _, n := range []int{-1, -2, math.MinInt} {
		for _, first := range []int{0, 2, -1} {
			d := device(t, 1)
			d.Stop(first)
			d.Stop(n)
			for i := 0; i < 30; i++ {
				if e := turns()[i%6](d); e == api.ErrDead {
					t.Error(n, i)
				}
			}
		}
	}
}

// P4.3: the last Stop holds; reads, and what asks, do not count.
func TestStopAgain(t *testing.T) {
	d := device(t, 1)
	d.Stop(1)
	d.Stop(3)
	write(t, d, 0, full("a"))
	for i := 0; i < 5; i++ {
		want(t, d, full("a"), 1)
	}
	d.Copy().Barrier()
	write(t, d, 0, full("b"))
	barrier(t, d)
	if e := d.Barrier(); e != api.ErrDead {
		t.Error(e)
	}
	d.Stop(1)
	write(t, d, 0, full("c"))
	if e := d.Write(-1, "x"); e != api.ErrDead || d.Lost() {
		t.Error(e)
	}
	want(t, d, full("c"), 1)
	d.Stop(math.MaxInt)
	barrier(t, d)
}

// P4.3: a crash ends a stop, whether it has come or not.
func TestCrashEndsStop(t *testing.T) {
	for n := 0; n < 4; n++ {
		d := device(t, 1)
		write(t, d, 0, full("a"))
		d.Stop(n)
		d.Write(0, full("b"))
		d.Crash(1, 1)
		for i := 0; i < 6; i++ {
			write(t, d, 0, full("c"))
			barrier(t, d)
		}
	}
}

// P4.3: a copy is the same in all, and what is done to one is not done to the other.
func TestCopy(t *testing.T) {
	d := device(t, 2)
	write(t, d, 0, full("ab"))
	barrier(t, d)
	write(t, d, 0, full("c"))
	twin := d.Copy()
	want(t, twin, full("cb"), 1)
	write(t, twin, 1, full("d"))
	want(t, d, full("cb"), 1)
	write(t, d, 1, full("e"))
	want(t, twin, full("cd"), 2)
	d.Crash()
	want(t, d, full("ab"), 0)
	third := twin.Copy()
	twin.Crash(2, 1)
	want(t, twin, half("c")+half("a")+full("d"), 0)
	third.Crash(1, 2)
	want(t, third, full("c")+half("d")+half("b"), 0)
	twin.Lose()
	if d.Lost() || third.Lost() || !twin.Lost() {
		t.Error("lost")
	}
}

// P4.3: a copy has as many calls left, and counts its own.
func TestCopyOfStop(t *testing.T) {
	d := device(t, 1)
	d.Stop(2)
	barrier(t, d)
	twin := d.Copy()
	barrier(t, d)
	if e := d.Barrier(); e != api.ErrDead {
		t.Error(e)
	}
	barrier(t, twin)
	if e := twin.Barrier(); e != api.ErrDead {
		t.Error(e)
	}
	twin.Stop(-1)
	barrier(t, twin)
	if e := d.Barrier(); e != api.ErrDead {
		t.Error(e)
	}
	d.Crash()
	barrier(t, d)
}

// model is a device of three sectors as the chapter's words tell it: what is
// lasting, and each pending write with its letter.
type model struct {
	lasting [3]string
	pending []told
	left    int
}

type told struct {
	at     int
	letter string
}

func (m *model) clone() *model {
	return &model{lasting: m.lasting, pending: slices.Clone(m.pending), left: m.left}
}

// now is the bytes as they were written last.
func (m *model) now() string {
	l := m.lasting
	for _, w := range m.pending {
		l[w.at] = full(w.letter)
	}
	return l[0] + l[1] + l[2]
}

// done tells whether a write or a barrier is done.
func (m *model) done() bool {
	if m.left == 0 {
		return false
	}
	m.left = max(m.left-1, -1)
	return true
}

func (m *model) write(at int, letters string) {
	if m.done() {
		for i := range letters {
			m.pending = append(m.pending, told{at + i, letters[i : i+1]})
		}
	}
}

func (m *model) barrier() {
	if m.done() {
		m.settle([]int{1, 1, 1, 1, 1, 1, 1, 1, 1, 1, 1, 1})
	}
}

func (m *model) crash(keep []int) {
	m.settle(keep)
	m.left = -1
}

// settle makes the pending writes lasting by their fates.
func (m *model) settle(keep []int) {
	for i, w := range m.pending {
		switch {
		case i >= len(keep) || keep[i] == 0:
		case keep[i] == 1:
			m.lasting[w.at] = full(w.letter)
		default:
			m.lasting[w.at] = half(w.letter) + m.lasting[w.at][32:]
		}
	}
	m.pending = nil
}

// step is a call, on a device and on its model.
type step struct {
	real func(d *SSD)
	told func(m *model)
}

func steps() []step {
	var l []step
	add := func(real func(d *SSD), told func(m *model)) { l = append(l, step{real, told}) }
	for _, w := range []struct {
		at      int
		letters string
	}{{0, "a"}, {0, "b"}, {1, "cd"}, {0, "efg"}, {2, "h"}} {
		add(func(d *SSD) { d.Write(w.at, full(w.letters)) }, func(m *model) { m.write(w.at, w.letters) })
	}
	add(func(d *SSD) { d.Barrier() }, func(m *model) { m.barrier() })
	for _, keep := range fates() {
		add(func(d *SSD) { d.Crash(keep...) }, func(m *model) { m.crash(keep) })
	}
	for _, n := range []int{0, 1} {
		add(func(d *SSD) { d.Stop(n) }, func(m *model) { m.left = n })
	}
	return l
}

func fates() [][]int {
	return [][]int{nil, {1, 0, 2}, {2, 1, 0, 1, 2}}
}

// P4.1 to P4.4: all ways of four calls, one behind the other, against the model;
// behind each the device is the model's, and so it is behind each crash of a copy.
func TestAgainstModel(t *testing.T) {
	var walk func(d *SSD, m *model, deep int)
	walk = func(d *SSD, m *model, deep int) {
		want(t, d, m.now(), len(m.pending))
		for _, keep := range fates() {
			twin, n := d.Copy(), m.clone()
			twin.Crash(keep...)
			n.crash(keep)
			want(t, twin, n.now(), 0)
		}
		if deep == 0 || t.Failed() {
			return
		}
		for _, s := range steps() {
			twin, n := d.Copy(), m.clone()
			s.real(twin)
			s.told(n)
			walk(twin, n, deep-1)
		}
	}
	zero := full("\x00")
	walk(device(t, 3), &model{lasting: [3]string{zero, zero, zero}, left: -1}, 4)
}

// P4.4: each crash leaves what was written ahead of a barrier, but where it was
// written again; there it is the old, one of the new, or torn between two.
func TestBehindEachCrash(t *testing.T) {
	d := device(t, 2)
	write(t, d, 0, full("ab"))
	barrier(t, d)
	write(t, d, 0, full("c"))
	write(t, d, 0, full("d"))
	may := []string{full("a"), full("c"), full("d"), half("c") + half("a"), half("d") + half("a"), half("d") + half("c")}
	seen := map[string]int{}
	for i := range 9 {
		twin := d.Copy()
		twin.Crash(i/3, i%3)
		got := all(t, twin)
		if !slices.Contains(may, got[:64]) || got[64:] != full("b") {
			t.Errorf("%d: %q", i, got)
		}
		seen[got]++
	}
	if len(seen) != len(may) {
		t.Error(len(seen), "states")
	}
}

// The greatest device holds as much as it has, and comes back as it was lasting.
func TestGreatest(t *testing.T) {
	d := device(t, api.MaxSectors)
	a, b := strings.Repeat("a", api.MaxSectors*api.Sector), strings.Repeat("b", api.MaxSectors*api.Sector)
	write(t, d, 0, a)
	barrier(t, d)
	for range 2 {
		write(t, d, 0, b)
	}
	want(t, d, b, 2*api.MaxSectors)
	d.Crash()
	want(t, d, a, 0)
	write(t, d, api.MaxSectors-1, full("c"))
	if e := d.Write(api.MaxSectors-1, full("cc")); e != api.ErrRange {
		t.Error(e)
	}
	want(t, d, a[64:]+full("c"), 1)
}
