package wlog

import (
	"math"
	"slices"
	"strings"
	"testing"

	"lighter/api"
	"lighter/record"
	"lighter/ssd"
	"lighter/super"
)

func sp(at, n int) api.Span { return api.Span{At: at, Len: n} }

// write is a Write of spans, all of whose bytes are those of b again and again; trim and note are of the other kinds.
func write(b string, l ...api.Span) record.Record {
	n := 0
	for _, s := range l {
		n += s.Len * 64
	}
	return record.Record{Kind: record.Write, Spans: l, Data: strings.Repeat(b, n)[:n]}
}

func trim(l ...api.Span) record.Record { return record.Record{Kind: record.Trim, Spans: l} }

func note(text string) record.Record { return record.Record{Kind: record.Note, Text: text} }

// by is a record of an epoch and with a number.
func by(epoch, number int, r record.Record) record.Record {
	r.Epoch, r.Number = epoch, number
	return r
}

// blank is a device of bytes 0.
func blank(t *testing.T, sectors int) *ssd.SSD {
	t.Helper()
	d, e := ssd.New(sectors)
	if e != api.OK {
		t.Fatal(e)
	}
	return d
}

// fresh is a device, and a log on it of the key 7, the epoch 1 and from the number 1 on.
func fresh(t *testing.T, sectors int) (*ssd.SSD, *Log) {
	t.Helper()
	d := blank(t, sectors)
	l, e := Format(d, 7, 1, 1)
	if l == nil || e != api.OK {
		t.Fatal(e)
	}
	return d, l
}

// opened is a device's log.
func opened(t *testing.T, d *ssd.SSD, epoch int) *Log {
	t.Helper()
	l, e := Open(d, epoch)
	if l == nil || e != api.OK {
		t.Fatal(e)
	}
	return l
}

// put appends a record that may be appended.
func put(t *testing.T, l *Log, r record.Record) Entry {
	t.Helper()
	x, e := l.Append(r)
	if e != api.OK {
		t.Fatal(e)
	}
	return x
}

// want holds an error against the one that is asked for.
func want(t *testing.T, what string, got, asked api.Errno) {
	t.Helper()
	if got != asked {
		t.Fatalf("%s: %v; want %v", what, got, asked)
	}
}

// laid is a device with a superblock, and with records one behind the other from its Tail on; what goes beyond the ring's end goes round.
func laid(t *testing.T, s super.Super, l ...record.Record) *ssd.SSD {
	t.Helper()
	d := blank(t, s.Size+2)
	b, e := super.Encode(s)
	want(t, "Encode of a superblock", e, api.OK)
	want(t, "Write of it", d.Write(s.Serial%2, b), api.OK)
	pos := s.Tail
	for _, r := range l {
		b, e := record.Encode(r)
		want(t, "Encode of a record", e, api.OK)
		for ; b != ""; b = b[64:] {
			want(t, "Write of it", d.Write(2+pos%s.Size, b[:64]), api.OK)
			pos++
		}
	}
	want(t, "Barrier", d.Barrier(), api.OK)
	return d
}

// checkOpen holds Open of a device against the model, and the log that it answers.
func checkOpen(t *testing.T, d *ssd.SSD, epoch int) (*Log, api.Errno) {
	t.Helper()
	twin := d.Copy()
	m, f := reopened(twin, epoch)
	l, e := Open(d, epoch)
	want(t, "Open", e, f)
	sameLog(t, l, m)
	if d != nil {
		sameDevice(t, d, twin)
	}
	return l, e
}

// P12.1, P12.2: the chapter's example.
func TestExample(t *testing.T) {
	d, l := fresh(t, 6)
	x := put(t, l, note("hi"))
	if !sameEntry(x, Entry{Record: by(1, 1, note("hi")), Pos: 0, Len: 1}) {
		t.Error(x)
	}
	want(t, "Commit", l.Commit(), api.OK)
	if l := opened(t, d, 2); !sameEntries(l.Entries(), []Entry{x}) {
		t.Error(l.Entries())
	}
}

// P12.1: Format writes bytes 0 to all sectors and the first superblock, whatever stood there; the log has no records.
func TestFormat(t *testing.T) {
	for _, sectors := range []int{4, 5, 20, 65536} {
		for _, key := range []uint64{0, 9, math.MaxUint64} {
			for _, epoch := range []int{1, 4294967295} {
				for _, number := range []int{1, 1099511627775} {
					d := blank(t, sectors)
					want(t, "Write", d.Write(0, strings.Repeat("x", sectors*64)), api.OK)
					l, e := Format(d, key, epoch, number)
					want(t, "Format", e, api.OK)
					if d.Pending() != 0 {
						t.Errorf("%d are pending", d.Pending())
					}
					b, _ := super.Encode(super.Super{Key: key, Epoch: epoch, Size: sectors - 2, Number: number})
					if got, _ := d.Read(0, sectors); got != b+strings.Repeat(zero, sectors-1) {
						t.Errorf("%d sectors, key %d, epoch %d, number %d: other bytes", sectors, key, epoch, number)
					}
					if len(l.Entries()) != 0 || l.Last() != number-1 || l.Durable() != number-1 || l.Free() != sectors-2 || l.Key() != key || l.Epoch() != epoch {
						t.Errorf("%d, %d, %d, %d, %d", l.Last(), l.Durable(), l.Free(), l.Key(), l.Epoch())
					}
				}
			}
		}
	}
}

// P12.1: what is wrong with Format's arguments, and with Open's; nothing is done then, and no log is answered.
func TestArguments(t *testing.T) {
	for _, sectors := range []int{0, 1, 2, 3, 4, 9} {
		for _, epoch := range append(ends(4294967296), 2, 1<<40) {
			for _, number := range append(ends(1099511627776), 2) {
				checkFormat(t, sectors, epoch, number)
			}
			d := blank(t, max(sectors, 1))
			if sectors == 0 {
				d = nil
			}
			l, e := checkOpen(t, d, epoch)
			if asked := wrongDevice(d, epoch); l != nil || asked != api.OK && e != asked || asked == api.OK && e != api.ErrNone {
				t.Errorf("Open of %d sectors, epoch %d: %v", sectors, epoch, e)
			}
		}
	}
}

// checkFormat holds Format of a device of bytes x against the model; of 0 sectors it is nil.
func checkFormat(t *testing.T, sectors, epoch, number int) {
	t.Helper()
	if sectors == 0 {
		l, e := Format(nil, 7, epoch, number)
		if l != nil || e != api.ErrNil {
			t.Errorf("Format of none: %v", e)
		}
		return
	}
	d := blank(t, sectors)
	want(t, "Write", d.Write(0, strings.Repeat("x", sectors*64)), api.OK)
	twin := d.Copy()
	m, f := formatted(twin, 7, epoch, number)
	l, e := Format(d, 7, epoch, number)
	want(t, "Format", e, f)
	sameLog(t, l, m)
	sameDevice(t, d, twin)
}

// P12.1: Format and Open answer ssd's first error; which step it is tells what stands there, and what lasts.
func TestStopsOfFormatAndOpen(t *testing.T) {
	for n := -1; n < 6; n++ {
		d := blank(t, 5)
		want(t, "Write", d.Write(0, strings.Repeat("x", 5*64)), api.OK)
		d.Stop(n)
		twin := d.Copy()
		m, f := formatted(twin, 7, 1, 1)
		l, e := Format(d, 7, 1, 1)
		want(t, "Format", e, f)
		want(t, "Format", e, dead(n, 4))
		sameLog(t, l, m)
		sameDevice(t, d, twin)
	}
	for n := -1; n < 4; n++ {
		d := laid(t, super.Super{Key: 7, Epoch: 3, Serial: 8, Size: 6, Tail: 4, Number: 5}, by(2, 5, note("a")), by(3, 6, write("b", sp(1, 2))))
		d.Stop(n)
		_, e := checkOpen(t, d, 4)
		want(t, "Open", e, dead(n, 2))
	}
}

// dead is the error of so many writes and barriers, where n more are done.
func dead(n, steps int) api.Errno {
	if n >= 0 && n < steps {
		return api.ErrDead
	}
	return api.OK
}

// P12.1, R1: Open's errors, in their order: a lost device, no superblock, one of another size, one of an epoch that is not below.
func TestErrorsOfOpen(t *testing.T) {
	s := super.Super{Key: 7, Epoch: 5, Serial: 3, Size: 4, Tail: 9, Number: 2}
	b, _ := super.Encode(s)
	for i, c := range []struct {
		sectors, slot, epoch int
		block                string
		e                    api.Errno
	}{
		{6, 1, 6, b, api.OK}, {6, 1, 4294967295, b, api.OK}, {6, 1, 5, b, api.ErrFenced}, {6, 1, 4, b, api.ErrFenced}, {6, 1, 1, b, api.ErrFenced},
		{5, 1, 6, b, api.ErrForm}, {7, 1, 6, b, api.ErrForm}, {4, 1, 6, b, api.ErrForm}, {7, 1, 5, b, api.ErrForm},
		{6, 0, 6, b, api.ErrNone}, {6, 1, 6, b[:63] + "?", api.ErrNone}, {7, 0, 5, b, api.ErrNone}, {6, 1, 6, zero, api.ErrNone},
		{6, 1, 0, b, api.ErrArg}, {6, 1, 4294967296, b, api.ErrArg}, {3, 1, 6, b, api.ErrArg}, {7, 0, -1, b, api.ErrArg},
	} {
		d := blank(t, c.sectors)
		want(t, "Write", d.Write(c.slot, c.block), api.OK)
		ahead, _ := d.Read(0, c.sectors)
		l, e := checkOpen(t, d, c.epoch)
		now, _ := d.Read(0, c.sectors)
		if e != c.e || (l != nil) != (c.e == api.OK) || (now == ahead) != (c.e != api.OK) {
			t.Errorf("%d: %v; want %v", i, e, c.e)
		}
		d.Lose()
		lost := api.ErrDead
		if c.e == api.ErrArg {
			lost = api.ErrArg
		}
		if l, e := Open(d, c.epoch); l != nil || e != lost {
			t.Errorf("%d, lost: %v; want %v", i, e, lost)
		}
		if l, e := Format(d, 1, c.epoch, 1); l != nil || e != lost {
			t.Errorf("%d, lost: Format: %v; want %v", i, e, lost)
		}
	}
}

// P12.1: of two superblocks the later one is the log's; the other one's sector is where the next one goes.
func TestTwoSuperblocks(t *testing.T) {
	for _, serial := range []int{0, 1, 2, 7, 1099511627772} {
		one := super.Super{Key: 7, Epoch: 4, Serial: serial, Size: 4, Tail: 1, Number: 2}
		two := super.Super{Key: 7, Epoch: 5, Serial: serial + 1, Size: 4, Tail: 2, Number: 3}
		d := laid(t, one, by(4, 2, note("gone")), by(4, 3, note("here")))
		b, _ := super.Encode(two)
		want(t, "Write", d.Write(two.Serial%2, b), api.OK)
		l, e := checkOpen(t, d, 6)
		want(t, "Open", e, api.OK)
		x := Entry{Record: by(4, 3, note("here")), Pos: 2, Len: 1}
		if !sameEntries(l.Entries(), []Entry{x}) || l.Last() != 3 || l.Free() != 3 {
			t.Errorf("%v, %d, %d", l.Entries(), l.Last(), l.Free())
		}
		three := super.Super{Key: 7, Epoch: 6, Serial: serial + 2, Size: 4, Tail: 2, Number: 3}
		a, _ := super.Encode(three)
		if got, _ := d.Read(three.Serial%2, 1); got != a || d.Pending() != 0 {
			t.Error("another superblock than the next one is written")
		}
		if got, _ := d.Read(two.Serial%2, 1); got != b {
			t.Error("the superblock ahead is written over")
		}
	}
}

// P12.1: which records are there: their numbers go up by one, their epochs do not fall and are not above the superblock's.
func TestRecordsThatAreThere(t *testing.T) {
	s := super.Super{Key: 7, Epoch: 7, Serial: 4, Size: 9, Tail: 3, Number: 5}
	n := func(epoch, number int) record.Record { return by(epoch, number, note("n")) }
	for i, c := range []struct {
		l    []record.Record
		many int
	}{
		{nil, 0}, {[]record.Record{n(7, 5)}, 1}, {[]record.Record{n(0, 5)}, 1}, {[]record.Record{n(8, 5)}, 0}, {[]record.Record{n(4294967295, 5)}, 0},
		{[]record.Record{n(7, 4)}, 0}, {[]record.Record{n(7, 6)}, 0}, {[]record.Record{n(7, 1)}, 0}, {[]record.Record{n(7, 0), n(7, 5)}, 0},
		{[]record.Record{n(3, 5), n(3, 6), n(3, 7)}, 3}, {[]record.Record{n(3, 5), n(5, 6), n(7, 7)}, 3}, {[]record.Record{n(3, 5), n(3, 6), n(2, 7)}, 2}, {[]record.Record{n(6, 5), n(5, 6), n(6, 7)}, 1},
		{[]record.Record{n(3, 5), n(8, 6)}, 1}, {[]record.Record{n(7, 5), n(7, 6), n(8, 7), n(7, 8)}, 2}, {[]record.Record{n(3, 5), n(3, 7)}, 1}, {[]record.Record{n(3, 5), n(3, 5)}, 1}, {[]record.Record{n(3, 5), n(3, 6), n(3, 8), n(3, 7)}, 2},
		{[]record.Record{by(7, 5, write("a", sp(0, 8)))}, 1}, {[]record.Record{by(7, 5, write("a", sp(0, 9)))}, 0}, {[]record.Record{n(7, 5), by(7, 6, write("a", sp(0, 6))), n(7, 7)}, 3}, {[]record.Record{n(7, 5), by(7, 6, write("a", sp(0, 7)))}, 2},
		{[]record.Record{by(1, 5, trim(sp(9, 2))), by(1, 6, note(strings.Repeat("t", 300))), by(2, 7, write("ab", sp(5, 1), sp(1, 1)))}, 3},
	} {
		l, e := checkOpen(t, laid(t, s, c.l...), 8)
		if e != api.OK || len(l.Entries()) != c.many || l.Last() != 4+c.many || l.Durable() != 4+c.many {
			t.Errorf("%d: %v, %v, Last %d, Durable %d; want %d", i, l.Entries(), e, l.Last(), l.Durable(), c.many)
		}
	}
}

// P12.1: a record is one only if all of its sectors are right; what stands behind a wrong one is none.
func TestWrongSectors(t *testing.T) {
	s := super.Super{Key: 7, Epoch: 7, Serial: 4, Size: 9, Tail: 7, Number: 5} // the third one goes round
	records := []record.Record{by(6, 5, note("one")), by(6, 6, note("two")), by(6, 7, write("abc", sp(0, 3))), by(7, 8, trim(sp(0, 1)))}
	ahead := []int{0, 1, 2, 2, 2, 2, 3, 4, 4} // how many are there, if the sector of this position is wrong
	for k, many := range ahead {
		for _, byteAt := range []int{0, 3, 40, 63} {
			d := laid(t, s, records...)
			at := 2 + (s.Tail+k)%s.Size
			b, _ := d.Read(at, 1)
			want(t, "Write", d.Write(at, b[:byteAt]+string([]byte{b[byteAt] ^ 1})+b[byteAt+1:]), api.OK)
			l, e := checkOpen(t, d, 8)
			if e != api.OK || len(l.Entries()) != many {
				t.Errorf("position %d, byte %d: %d records, %v; want %d", k, byteAt, len(l.Entries()), e, many)
			}
		}
	}
}

// P12.1: the records have together no more sectors than the ring, also where the last one's data would be what the first one is.
func TestNoMoreThanTheRing(t *testing.T) {
	s := super.Super{Key: 7, Epoch: 7, Serial: 4, Size: 4, Tail: 6, Number: 5}
	first := by(6, 5, note("one"))
	head, _ := record.Encode(first)
	long := by(6, 6, record.Record{Kind: record.Write, Spans: []api.Span{sp(0, 3)}, Data: strings.Repeat("d", 128) + head})
	l, e := checkOpen(t, laid(t, s, first, long), 8)
	if e != api.OK || !sameEntries(l.Entries(), []Entry{{Record: first, Pos: 6, Len: 1}}) || l.Free() != 3 {
		t.Errorf("%v, %v, Free %d", l.Entries(), e, l.Free())
	}
	full := by(6, 6, write("d", sp(0, 2)))
	l, e = checkOpen(t, laid(t, s, first, full), 8)
	if e != api.OK || !sameEntries(l.Entries(), []Entry{{Record: first, Pos: 6, Len: 1}, {Record: full, Pos: 7, Len: 3}}) || l.Free() != 0 {
		t.Errorf("%v, %v, Free %d", l.Entries(), e, l.Free())
	}
}

// P12.1: the epoch that the records must not be above is the superblock's, not Open's; all that are pending are durable behind it.
func TestEpochsOfOpen(t *testing.T) {
	d := laid(t, super.Super{Key: 7, Epoch: 3, Serial: 4, Size: 8, Tail: 0, Number: 1}, by(3, 1, note("a")), by(4, 2, note("b")))
	l, _ := checkOpen(t, d, 9)
	if len(l.Entries()) != 1 || l.Epoch() != 9 {
		t.Error(l.Entries(), l.Epoch())
	}
	x := put(t, l, note("c"))
	if x.Epoch != 9 || x.Number != 2 || x.Pos != 1 {
		t.Error(x)
	}
	l, _ = checkOpen(t, d, 10)
	if len(l.Entries()) != 2 || l.Durable() != 2 || d.Pending() != 0 {
		t.Error(l.Entries(), l.Durable(), d.Pending())
	}
	d.Crash()
	if l, _ = checkOpen(t, d, 11); len(l.Entries()) != 2 {
		t.Error(l.Entries())
	}
}

// P12.2: Append's errors: record.Check's of the record with the log's epoch and number, ahead of ErrFull; nothing is changed then.
func TestErrorsOfAppend(t *testing.T) {
	d, l := fresh(t, 8)
	put(t, l, note("a"))
	for i, c := range []struct {
		r record.Record
		e api.Errno
	}{
		{record.Record{}, api.ErrKind}, {record.Record{Kind: 4, Text: "x"}, api.ErrKind}, {trim(), api.ErrArg}, {trim(sp(-1, 1)), api.ErrArg}, {write("x", sp(0, 513)), api.ErrArg}, {note(strings.Repeat("x", 513)), api.ErrArg},
		{record.Record{Kind: record.Write, Spans: []api.Span{sp(0, 1)}, Data: "x"}, api.ErrAlign}, {record.Record{Kind: record.Write, Spans: []api.Span{sp(0, 100)}, Data: "x"}, api.ErrAlign},
		{write("x", sp(0, 5)), api.ErrFull}, {write("x", sp(0, 512)), api.ErrFull}, {note(strings.Repeat("x", 373)), api.ErrFull}, {trim(slices.Repeat([]api.Span{sp(60000, 5000)}, 64)...), api.ErrFull},
		{by(-1, -1, record.Record{}), api.ErrKind}, {by(-1, 1<<40, write("x", sp(0, 5))), api.ErrFull},
	} {
		twin := d.Copy()
		x, e := l.Append(c.r)
		if e != c.e || !sameEntry(x, Entry{}) || x.Spans != nil {
			t.Errorf("%d: %v, %v; want %v", i, x, e, c.e)
		}
		if l.Last() != 1 || l.Free() != 5 || len(l.Entries()) != 1 {
			t.Errorf("%d: Last %d, Free %d, %v", i, l.Last(), l.Free(), l.Entries())
		}
		sameDevice(t, d, twin)
	}
	x := put(t, l, by(-1, 1<<40, write("x", sp(0, 4)))) // its epoch and number are the log's
	if !sameEntry(x, Entry{Record: by(1, 2, write("x", sp(0, 4))), Pos: 1, Len: 5}) || l.Free() != 0 {
		t.Error(x, l.Free())
	}
	_, e := l.Append(note(""))
	want(t, "Append to a full log", e, api.ErrFull)
}

// P12.2: a record of each size from one sector to all of the ring, from each place of the ring on: its bytes stand where its positions are.
func TestPlaces(t *testing.T) {
	for size := 2; size < 8; size++ {
		for from := range 2 * size {
			for n := 2; n <= size; n++ {
				d := laid(t, super.Super{Key: 7, Epoch: 1, Size: size, Tail: from, Number: 1})
				l := opened(t, d, 2)
				ahead, _ := d.Read(0, size+2)
				x := put(t, l, write("abcdefghijk", sp(9, n-1)))
				b, _ := record.Encode(x.Record)
				now, _ := d.Read(0, size+2)
				for i := range n {
					at := 2 + (from+i)%size
					if now[at*64:at*64+64] != b[i*64:i*64+64] {
						t.Errorf("size %d, from %d, %d sectors: sector %d is not there", size, from, n, i)
					}
					now = now[:at*64] + ahead[at*64:at*64+64] + now[at*64+64:]
				}
				if now != ahead || x.Pos != from || x.Len != n || l.Free() != size-n || d.Pending() != n {
					t.Errorf("size %d, from %d, %d sectors: %d, %d, Free %d, %d are pending", size, from, n, x.Pos, x.Len, l.Free(), d.Pending())
				}
			}
		}
	}
}

// P12.2: sector by sector: each one is a write, in the order of the record's bytes, those at the ring's end first; behind a failed one the log is lame.
func TestStopsOfAppend(t *testing.T) {
	r := write("abcdefghijk", sp(9, 4))
	for from := range 6 {
		for n := range 7 {
			d := laid(t, super.Super{Key: 7, Epoch: 1, Size: 6, Tail: from, Number: 1})
			l := opened(t, d, 2)
			b, _ := record.Encode(by(2, 1, r))
			d.Stop(n)
			twin := d.Copy()
			for i := range 5 {
				twin.Write(2+(from+i)%6, b[i*64:i*64+64])
			}
			x, e := l.Append(r)
			want(t, "Append", e, dead(n, 5))
			sameDevice(t, d, twin)
			if e == api.OK {
				continue
			}
			if !sameEntry(x, Entry{}) || l.Last() != 0 || l.Free() != 6 || len(l.Entries()) != 0 {
				t.Errorf("%d: %v, Last %d, Free %d", n, x, l.Last(), l.Free())
			}
			checkLame(t, d, l)
		}
	}
}

// checkLame holds a lame log against what it must answer; its device is made to go on.
func checkLame(t *testing.T, d *ssd.SSD, l *Log) {
	t.Helper()
	d.Crash()
	twin := d.Copy()
	entries, last, durable, free := l.Entries(), l.Last(), l.Durable(), l.Free()
	for range 2 {
		for _, r := range []record.Record{note("x"), {}, write("x", sp(0, 500))} {
			x, e := l.Append(r)
			want(t, "Append to a lame log", e, api.ErrDead)
			if !sameEntry(x, Entry{}) {
				t.Error(x)
			}
		}
		want(t, "Commit of a lame log", l.Commit(), api.ErrDead)
		for _, upto := range []int{math.MinInt, 0, last, last + 1, math.MaxInt} {
			want(t, "Reclaim of a lame log", l.Reclaim(upto), api.ErrDead)
		}
	}
	sameDevice(t, d, twin)
	if !sameEntries(l.Entries(), entries) || l.Last() != last || l.Durable() != durable || l.Free() != free {
		t.Error("a lame log has changed")
	}
	for _, x := range entries {
		got, e := l.Read(x.Pos, x.Len)
		if e != api.OK || len(got) != x.Len*64 {
			t.Errorf("Read of a lame log: %d bytes, %v", len(got), e)
		}
	}
	_, e := l.Read(-1, 0)
	want(t, "Read of a lame log", e, api.ErrArg)
	_, e = l.Read(0, 1000)
	want(t, "Read of a lame log", e, api.ErrRange)
}

// P12.2: Commit is a Barrier, with or without records that are pending; behind one that failed the log is lame.
func TestCommit(t *testing.T) {
	d, l := fresh(t, 20)
	for i := range 5 {
		if i > 0 {
			put(t, l, note("n"))
		}
		if l.Last() != i || l.Durable() != max(i-1, 0) {
			t.Error(l.Last(), l.Durable())
		}
		for range 2 {
			want(t, "Commit", l.Commit(), api.OK)
			if l.Durable() != i || d.Pending() != 0 {
				t.Error(l.Durable(), d.Pending())
			}
		}
	}
	for many := range 2 {
		for n := -1; n < 2; n++ {
			d, l := fresh(t, 20)
			put(t, l, note("n"))
			want(t, "Commit", l.Commit(), api.OK)
			for range many {
				put(t, l, note("n"))
			}
			d.Stop(n)
			e := l.Commit()
			want(t, "Commit", e, dead(n, 1))
			if e != api.OK {
				if l.Durable() != 1 || l.Last() != 1+many {
					t.Error(l.Durable(), l.Last())
				}
				checkLame(t, d, l)
			}
		}
	}
}

// P12.3: Reclaim of each number, out of records some of which are durable: what it answers, and what is there behind it.
func TestReclaim(t *testing.T) {
	for durable := range 6 {
		for _, upto := range []int{math.MinInt, math.MinInt + 1, -1, 0, 1, 2, 3, 4, 5, 6, 7, math.MaxInt - 1, math.MaxInt} {
			d, l := fresh(t, 20)
			var all []Entry
			for i := range 5 {
				if i == durable {
					want(t, "Commit", l.Commit(), api.OK)
				}
				all = append(all, put(t, l, write("abcde"[i:i+1], sp(i, 1+i%3))))
			}
			if durable == 5 {
				want(t, "Commit", l.Commit(), api.OK)
			}
			pending := d.Pending()
			e := l.Reclaim(upto)
			switch {
			case upto > durable:
				want(t, "Reclaim", e, api.ErrRange)
			default:
				want(t, "Reclaim", e, api.OK)
			}
			if e != api.OK || upto < 1 {
				if !sameEntries(l.Entries(), all) || l.Durable() != durable || d.Pending() != pending || l.Free() != 4 {
					t.Errorf("Reclaim of %d, %d durable: %v, %v, Durable %d, Free %d, %d are pending", upto, durable, e, l.Entries(), l.Durable(), l.Free(), d.Pending())
				}
				continue
			}
			free := 4
			for _, x := range all[:upto] {
				free += x.Len
			}
			if !sameEntries(l.Entries(), all[upto:]) || l.Durable() != 5 || l.Last() != 5 || d.Pending() != 0 || l.Free() != free {
				t.Errorf("Reclaim of %d, %d durable: %v, Durable %d, Last %d, Free %d", upto, durable, l.Entries(), l.Durable(), l.Last(), l.Free())
			}
			d.Crash()
			if l := opened(t, d, 2); !sameEntries(l.Entries(), all[upto:]) || l.Last() != 5 {
				t.Errorf("Reclaim of %d, %d durable: %v behind a crash", upto, durable, l.Entries())
			}
		}
	}
}

// P12.3: Reclaim writes the next superblock into the sector of its Serial, and no other sector; that and a Barrier must be done, or the log is lame.
func TestStopsOfReclaim(t *testing.T) {
	for n := -1; n < 4; n++ {
		for upto := range 4 {
			d := laid(t, super.Super{Key: 7, Epoch: 1, Serial: 5, Size: 9, Tail: 7, Number: 1})
			l := opened(t, d, 2) // Serial 6
			for i := range 3 {
				put(t, l, write("a", sp(i, 1)))
			}
			want(t, "Commit", l.Commit(), api.OK)
			all := l.Entries()
			d.Stop(n)
			twin := d.Copy()
			asked := api.OK
			if upto > 0 {
				want(t, "the superblock", writeSuper(twin, super.Super{Key: 7, Epoch: 2, Serial: 7, Size: 9, Tail: 7 + 2*upto, Number: 1 + upto}), dead(n, 1))
				asked = twin.Barrier()
			}
			e := l.Reclaim(upto)
			want(t, "Reclaim", e, asked)
			sameDevice(t, d, twin)
			if e != api.OK {
				if !sameEntries(l.Entries(), all) || l.Last() != 3 || l.Durable() != 3 || l.Free() != 3 {
					t.Errorf("%d: %v, Last %d, Durable %d, Free %d", n, l.Entries(), l.Last(), l.Durable(), l.Free())
				}
				checkLame(t, d, l)
			}
		}
	}
}

// P12.3: Read answers the bytes of positions of records, and of no others; ErrArg is ahead of ErrRange, that ahead of ssd's error.
func TestRead(t *testing.T) {
	numbers := append(ends(1099511627776), 3, 4, 5, 6, 7, 8, 9, 10, 11, 12, 13, 14, math.MaxInt-3, math.MinInt+4)
	d := laid(t, super.Super{Key: 7, Epoch: 1, Size: 6, Tail: 4, Number: 1})
	l := opened(t, d, 2)
	bytes := strings.Repeat("?", 4*64)
	for _, r := range []record.Record{note("a"), write("b", sp(0, 2)), note("c"), note("d")} {
		b, _ := record.Encode(put(t, l, r).Record)
		bytes += b
	}
	want(t, "Commit", l.Commit(), api.OK)
	want(t, "Reclaim", l.Reclaim(1), api.OK) // from 5 to 9
	for _, lost := range []bool{false, true} {
		if lost {
			d.Lose()
		}
		for _, pos := range numbers {
			for _, n := range numbers {
				got, e := l.Read(pos, n)
				asked, told := api.OK, ""
				switch {
				case pos < 0 || n < 0:
					asked = api.ErrArg
				case pos < 5 || pos > 10 || n > 10-pos:
					asked = api.ErrRange
				case n > 0 && lost:
					asked = api.ErrDead
				default:
					told = bytes[pos*64 : (pos+n)*64]
				}
				if e != asked || got != told {
					t.Errorf("Read of %d from %d on, lost %v: %d bytes, %v; want %v", n, pos, lost, len(got), e, asked)
				}
			}
		}
	}
}

// P12.3: data of a record are its last sectors: Read of them is its data.
func TestReadOfData(t *testing.T) {
	_, l := fresh(t, 40)
	for round := range 30 {
		r := write(string(rune('a'+round%26))+"-data", sp(round, 1+round%7), sp(3, 2))
		x := put(t, l, r)
		n := len(r.Data) / 64
		if got, e := l.Read(x.Pos+x.Len-n, n); got != r.Data || e != api.OK {
			t.Errorf("%d: %v", round, e)
		}
		want(t, "Commit", l.Commit(), api.OK)
		want(t, "Reclaim", l.Reclaim(l.Last()-1), api.OK)
	}
}

// P12.2, P12.3: numbers and Serials end at MaxSeq: record's and super's error, without the log being lame.
func TestLastNumbers(t *testing.T) {
	d := blank(t, 9)
	l, e := Format(d, 7, 1, 1099511627775)
	want(t, "Format", e, api.OK)
	if x := put(t, l, note("last")); x.Number != 1099511627775 {
		t.Error(x)
	}
	_, e = l.Append(note("beyond"))
	want(t, "Append", e, api.ErrRange)
	_, e = l.Append(record.Record{})
	want(t, "Append", e, api.ErrRange)
	want(t, "Commit", l.Commit(), api.OK)
	want(t, "Reclaim", l.Reclaim(1099511627775), api.ErrRange)
	want(t, "Reclaim", l.Reclaim(1099511627774), api.OK)
	want(t, "Commit", l.Commit(), api.OK)
	if len(l.Entries()) != 1 || l.Last() != 1099511627775 || l.Free() != 6 {
		t.Error(l.Entries(), l.Last(), l.Free())
	}

	d = laid(t, super.Super{Key: 7, Epoch: 1, Serial: 1099511627774, Size: 6, Tail: 0, Number: 1}, by(1, 1, note("a")), by(1, 2, note("b")))
	l, e = checkOpen(t, d, 2)
	want(t, "Open", e, api.OK)
	want(t, "Reclaim", l.Reclaim(1), api.ErrRange)
	put(t, l, note("c"))
	want(t, "Commit", l.Commit(), api.OK)
	if len(l.Entries()) != 3 || l.Durable() != 3 {
		t.Error(l.Entries(), l.Durable())
	}
	_, e = checkOpen(t, d, 3)
	want(t, "Open", e, api.ErrRange)
}

// R1: positions end as well; nothing panics there, and no record is told of as one that was not written.
func TestLastPositions(t *testing.T) {
	for left := 1; left < 9; left++ {
		s := super.Super{Key: 7, Epoch: 1, Serial: 4, Size: 6, Tail: 1099511627776 - left, Number: 1}
		var ahead []record.Record
		for i := range 6 {
			ahead = append(ahead, by(1, 1+i, note("n")))
		}
		if l, e := checkOpen(t, laid(t, s, ahead...), 2); e != api.OK || len(l.Entries()) != min(left-1, 6) {
			t.Errorf("%d left: %v", left, e)
		}
		d := laid(t, s)
		l := opened(t, d, 2)
		for i := range 6 {
			twin := d.Copy()
			x, e := l.Append(note("n"))
			if e != api.OK {
				sameDevice(t, d, twin)
			}
			if (e == api.OK) != (i < left-1) || e == api.OK && x.Pos != s.Tail+i {
				t.Errorf("%d left, %d: %v, %v", left, i, x, e)
			}
			_, e = l.Append(write("x", sp(0, 6)))
			want(t, "Append of more than the ring", e, api.ErrFull)
		}
		want(t, "Commit", l.Commit(), api.OK)
		want(t, "Reclaim", l.Reclaim(l.Last()), api.OK)
	}
}

// P12.2, P12.3: the greatest ring, gone round with records of all sizes; with as many records as there may be, which go one by one.
func TestGreatRing(t *testing.T) {
	d, l := fresh(t, 65536)
	first := 1
	for round := range 500 {
		r := write(string(rune('a'+round%26))+"-data", sp(round, 1+round*7%512))
		x, e := l.Append(r)
		for ; e == api.ErrFull; x, e = l.Append(r) {
			want(t, "Commit", l.Commit(), api.OK)
			want(t, "Reclaim", l.Reclaim(first), api.OK)
			first++
		}
		if e != api.OK || x.Number != round+1 {
			t.Fatal(round, x.Number, e)
		}
	}
	if all := l.Entries(); first < 100 || !sameEntries(opened(t, d, 2).Entries(), all) || len(all) != 501-first {
		t.Errorf("%d records from %d on", len(all), first)
	}
	d, l = fresh(t, 65536)
	for range 65534 {
		put(t, l, note(""))
	}
	_, e := l.Append(note(""))
	want(t, "Append", e, api.ErrFull)
	l = opened(t, d, 2)
	for upto := 1; upto <= 65534; upto++ {
		if e := l.Reclaim(upto); e != api.OK || l.Free() != upto {
			t.Fatal(upto, e, l.Free())
		}
	}
	if x := put(t, l, note("")); x.Number != 65535 || x.Pos != 65534 {
		t.Error(x)
	}
}

// P12.3: calls of a nil log.
func TestNil(t *testing.T) {
	var l *Log
	x, e := l.Append(note("x"))
	if e != api.ErrNil || !sameEntry(x, Entry{}) {
		t.Error(x, e)
	}
	want(t, "Commit", l.Commit(), api.ErrNil)
	want(t, "Reclaim", l.Reclaim(0), api.ErrNil)
	for _, n := range []int{-1, 0, 1} {
		s, e := l.Read(n, n)
		if s != "" || e != api.ErrNil {
			t.Error(s, e)
		}
	}
	if len(l.Entries()) != 0 || l.Last() != 0 || l.Durable() != 0 || l.Free() != 0 || l.Key() != 0 || l.Epoch() != 0 {
		t.Error("a nil log tells something")
	}
}

// R2: what is handed in is not changed and not kept; what is answered is the caller's.
func TestMemory(t *testing.T) {
	d, l := fresh(t, 20)
	spans := []api.Span{sp(1, 1), sp(5, 2), sp(9, 9)}
	x := put(t, l, trim(spans[:2]...))
	if !slices.Equal(spans, []api.Span{sp(1, 1), sp(5, 2), sp(9, 9)}) {
		t.Error(spans)
	}
	asked := Entry{Record: by(1, 1, trim(sp(1, 1), sp(5, 2))), Pos: 0, Len: 1}
	spans[0], spans[1] = sp(70, 1), sp(80, 1)
	if !sameEntry(x, asked) {
		t.Error("the answer has the caller's spans")
	}
	x.Spans[0] = sp(90, 1)
	for range 2 {
		m := l.Entries()
		if !sameEntries(m, []Entry{asked}) {
			t.Error(m)
		}
		m[0].Spans[0], m[0].Pos = sp(99, 1), 5
	}
	put(t, l, note("more"))
	m := l.Entries()
	want(t, "Commit", l.Commit(), api.OK)
	want(t, "Reclaim", l.Reclaim(1), api.OK)
	if !sameEntry(m[0], asked) || m[1].Text != "more" {
		t.Error("what was answered has changed")
	}
	l = opened(t, d, 2)
	if m := l.Entries(); len(m) != 1 || m[0].Text != "more" {
		t.Error(m)
	}
}
