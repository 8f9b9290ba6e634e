package wlog

import (
	"math"
	"slices"
	"strings"
	"testing"

	"lighter/api"
	"lighter/record"
	"lighter/ssd"
	"lighter/super"
)

// The chapter's words, told another way than the program tells them: sector by sector and position by position.

// model is a log, on a device of its own.
type model struct {
	d       *ssd.SSD
	s       super.Super
	entries []Entry
	durable int
	lame    bool
}

var zero = strings.Repeat("\x00", 64)

// wrongDevice is what is wrong with a device and an epoch.
func wrongDevice(d *ssd.SSD, epoch int) api.Errno {
	if d == nil {
		return api.ErrNil
	}
	if d.Sectors() < 4 || epoch < 1 || epoch >= 4294967296 {
		return api.ErrArg
	}
	return api.OK
}

// writeSuper writes a superblock into the sector of its Serial; to be followed by a Barrier.
func writeSuper(d *ssd.SSD, s super.Super) api.Errno {
	b, e := super.Encode(s)
	if e != api.OK {
		return e
	}
	return d.Write(s.Serial%2, b)
}

func formatted(d *ssd.SSD, key uint64, epoch, number int) (*model, api.Errno) {
	if e := wrongDevice(d, epoch); e != api.OK {
		return nil, e
	}
	if number < 1 || number >= 1099511627776 {
		return nil, api.ErrArg
	}
	if e := d.Write(0, strings.Repeat(zero, d.Sectors())); e != api.OK {
		return nil, e
	}
	if e := d.Barrier(); e != api.OK {
		return nil, e
	}
	s := super.Super{Key: key, Epoch: epoch, Serial: 0, Size: d.Sectors() - 2, Tail: 0, Number: number}
	if e := writeSuper(d, s); e != api.OK {
		return nil, e
	}
	if e := d.Barrier(); e != api.OK {
		return nil, e
	}
	return &model{d: d, s: s, durable: number - 1}, api.OK
}

func reopened(d *ssd.SSD, epoch int) (*model, api.Errno) {
	if e := wrongDevice(d, epoch); e != api.OK {
		return nil, e
	}
	var both [2]string
	for i := range both {
		b, e := d.Read(i, 1)
		if e != api.OK {
			return nil, e
		}
		both[i] = b
	}
	s, _, e := super.Pick(both[0], both[1])
	if e != api.OK {
		return nil, e
	}
	if s.Size != d.Sectors()-2 {
		return nil, api.ErrForm
	}
	if epoch <= s.Epoch {
		return nil, api.ErrFenced
	}
	m := &model{d: d, s: s}
	m.entries = m.found()
	if e := m.superseded(s.Tail, s.Number, epoch); e != api.OK {
		return nil, e
	}
	m.durable = m.last()
	return m, api.OK
}

// found is the records that stand on the device. Each one is read from sectors that go round as often as it asks for.
func (m *model) found() []Entry {
	round := ""
	for pos := m.s.Tail; pos < m.s.Tail+2*m.s.Size; pos++ {
		b, _ := m.d.Read(m.at(pos), 1)
		round += b
	}
	var l []Entry
	used, least := 0, 0
	for {
		r, n, e := record.Decode(round[used*64:])
		if e != api.OK || used+n > m.s.Size || r.Number != m.s.Number+len(l) || r.Epoch < least || r.Epoch > m.s.Epoch || m.s.Tail+used+n >= 1099511627776 {
			return l
		}
		l = append(l, Entry{Record: r, Pos: m.s.Tail + used, Len: n})
		used += n
		least = r.Epoch
	}
}

// at is the device's sector of a position.
func (m *model) at(pos int) int { return 2 + pos%m.s.Size }

// superseded writes the superblock of the next Serial, and a Barrier.
func (m *model) superseded(tail, number, epoch int) api.Errno {
	next := super.Super{Key: m.s.Key, Epoch: epoch, Serial: m.s.Serial + 1, Size: m.s.Size, Tail: tail, Number: number}
	if next.Serial >= 1099511627776 || next.Number >= 1099511627776 {
		return api.ErrRange
	}
	if e := writeSuper(m.d, next); e != api.OK {
		m.lame = true
		return e
	}
	if e := m.d.Barrier(); e != api.OK {
		m.lame = true
		return e
	}
	m.s = next
	return api.OK
}

func (m *model) last() int { return m.s.Number + len(m.entries) - 1 }

func (m *model) used() int {
	n := 0
	for _, x := range m.entries {
		n += x.Len
	}
	return n
}

func (m *model) appended(r record.Record) (Entry, api.Errno) {
	if m.lame {
		return Entry{}, api.ErrDead
	}
	r.Epoch, r.Number, r.Spans = m.s.Epoch, m.last()+1, slices.Clone(r.Spans)
	if e := record.Check(r); e != api.OK {
		return Entry{}, e
	}
	n, pos := record.Size(r), m.s.Tail+m.used()
	if m.used()+n > m.s.Size {
		return Entry{}, api.ErrFull
	}
	if pos+n >= 1099511627776 {
		return Entry{}, api.ErrArg
	}
	b, _ := record.Encode(r)
	for i := range n {
		if e := m.d.Write(m.at(pos+i), b[i*64:i*64+64]); e != api.OK {
			m.lame = true
			return Entry{}, e
		}
	}
	x := Entry{Record: r, Pos: pos, Len: n}
	m.entries = append(m.entries, x)
	return x, api.OK
}

func (m *model) committed() api.Errno {
	if m.lame {
		return api.ErrDead
	}
	if e := m.d.Barrier(); e != api.OK {
		m.lame = true
		return e
	}
	m.durable = m.last()
	return api.OK
}

func (m *model) reclaimed(upto int) api.Errno {
	if m.lame {
		return api.ErrDead
	}
	if upto > m.durable {
		return api.ErrRange
	}
	tail := m.s.Tail
	var left []Entry
	for _, x := range m.entries {
		if x.Number <= upto {
			tail = x.Pos + x.Len
		} else {
			left = append(left, x)
		}
	}
	if len(left) == len(m.entries) {
		return api.OK
	}
	if e := m.superseded(tail, upto+1, m.s.Epoch); e != api.OK {
		return e
	}
	m.entries = left
	m.durable = m.last()
	return api.OK
}

func (m *model) read(pos, n int) (string, api.Errno) {
	if pos < 0 || n < 0 {
		return "", api.ErrArg
	}
	end := m.s.Tail + m.used()
	if pos < m.s.Tail || pos > end || n > end-pos {
		return "", api.ErrRange
	}
	s := ""
	for i := range n {
		b, e := m.d.Read(m.at(pos+i), 1)
		if e != api.OK {
			return "", e
		}
		s += b
	}
	return s, api.OK
}

// sameEntry tells whether two entries are the same in all; lists without elements are.
func sameEntry(a, b Entry) bool {
	return a.Epoch == b.Epoch && a.Number == b.Number && a.Kind == b.Kind && a.Data == b.Data && a.Text == b.Text && a.Pos == b.Pos && a.Len == b.Len && slices.Equal(a.Spans, b.Spans)
}

// sameEntries is that of lists.
func sameEntries(a, b []Entry) bool { return slices.EqualFunc(a, b, sameEntry) }

// kept is all bytes of a copy of a device behind a crash.
func kept(d *ssd.SSD, keep ...int) string {
	twin := d.Copy()
	twin.Crash(keep...)
	b, _ := twin.Read(0, twin.Sectors())
	return b
}

// sameDevice holds a device against another one: what is read, what is pending and in which order, and what lasts.
func sameDevice(t *testing.T, got, want *ssd.SSD) {
	t.Helper()
	a, e := got.Read(0, got.Sectors())
	b, f := want.Read(0, want.Sectors())
	if a != b || e != f {
		t.Fatalf("read is %q, %v; want %q, %v", a, e, b, f)
	}
	if got.Pending() != want.Pending() {
		t.Fatalf("%d are pending; want %d", got.Pending(), want.Pending())
	}
	if kept(got) != kept(want) {
		t.Fatal("not the same lasts")
	}
	for _, keep := range [][]int{{1, 0, 2}, {0, 2, 1, 1}, {2, 1, 0, 0, 1}} {
		for range 3 {
			keep = append(keep, keep...)
		}
		if kept(got, keep...) != kept(want, keep...) {
			t.Fatalf("not the same lasts, if %v is kept", keep)
		}
	}
}

// sameLog holds a log against the model, in all that it tells.
func sameLog(t *testing.T, l *Log, m *model) {
	t.Helper()
	if (l == nil) != (m == nil) {
		t.Fatalf("a log: %v; want %v", l != nil, m != nil)
	}
	if l == nil {
		return
	}
	got := []int{l.Last(), l.Durable(), l.Free(), l.Epoch()}
	want := []int{m.last(), m.durable, m.s.Size - m.used(), m.s.Epoch}
	if !slices.Equal(got, want) || l.Key() != m.s.Key {
		t.Fatalf("Last, Durable, Free, Epoch are %v, Key %d; want %v, %d", got, l.Key(), want, m.s.Key)
	}
	if got := l.Entries(); !sameEntries(got, m.entries) {
		t.Fatalf("the records are %v; want %v", got, m.entries)
	}
}

// ends is the numbers around 0 and around an end, and the farthest ones.
func ends(end int) []int {
	return []int{math.MinInt, -end, -1, 0, 1, end - 1, end, end + 1, math.MaxInt}
}

// rolls is a row of numbers that looks like chance, and is the same each time.
type rolls uint64

func (r *rolls) below(n int) int {
	*r = *r*6364136223846793005 + 1442695040888963407
	return int(uint64(*r)>>33) % n
}

// fates is what becomes of n pending writes.
func (r *rolls) fates(n int) []int {
	l := make([]int, n)
	for i := range l {
		l[i] = r.below(3)
	}
	return l
}

// record is one that may be, of few sectors.
func (r *rolls) record() record.Record {
	switch r.below(4) {
	case 0:
		return note(strings.Repeat("n", r.below(120)))
	case 1:
		return trim(sp(r.below(100), 1+r.below(9)), sp(r.below(100), 1))
	case 2:
		return write(string(rune('a'+r.below(26))), sp(r.below(100), 1), sp(r.below(100), 1+r.below(2)))
	}
	return write(string(rune('a'+r.below(26))), sp(r.below(100), 1+r.below(5)))
}

// odd is a record that may not be, or is too great.
func (r *rolls) odd() record.Record {
	switch r.below(5) {
	case 0:
		return record.Record{}
	case 1:
		return record.Record{Kind: record.Write, Spans: []api.Span{sp(3, 1)}, Data: "short"}
	case 2:
		return trim()
	case 3:
		return write("x", sp(0, 25+r.below(400)))
	}
	return note(strings.Repeat("t", 513))
}
