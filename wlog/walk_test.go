package wlog

import (
	"testing"

	"lighter/api"
	"lighter/ssd"
)

// pair is a log on a device, and the model on another one that is the same in all.
type pair struct {
	roll  *rolls
	d     *ssd.SSD
	twin  *ssd.SSD
	l     *Log
	m     *model
	epoch int // the greatest one that a log of the device had
	times map[string]int
}

// check holds the two against each other, and counts what was done.
func (p *pair) check(t *testing.T, what string, e, asked api.Errno) {
	t.Helper()
	want(t, what, e, asked)
	sameLog(t, p.l, p.m)
	sameDevice(t, p.d, p.twin)
	p.times[what+" "+e.Error()]++
}

// both does something with both devices.
func (p *pair) both(do func(d *ssd.SSD)) {
	do(p.d)
	do(p.twin)
}

func (p *pair) format(t *testing.T) {
	t.Helper()
	number := 1 + p.roll.below(500)
	if p.roll.below(9) == 0 {
		number = 1099511627776 - p.roll.below(12)
	}
	p.epoch++
	l, e := Format(p.d, 7, p.epoch, number)
	m, f := formatted(p.twin, 7, p.epoch, number)
	if e == api.OK {
		p.l, p.m = l, m
	}
	p.check(t, "Format", e, f)
}

func (p *pair) open(t *testing.T) {
	t.Helper()
	epoch := p.epoch + p.roll.below(3)
	l, e := Open(p.d, epoch)
	m, f := reopened(p.twin, epoch)
	if e == api.OK {
		p.l, p.m, p.epoch = l, m, epoch
	}
	p.check(t, "Open", e, f)
}

func (p *pair) append(t *testing.T) {
	t.Helper()
	r := p.roll.record()
	if p.roll.below(12) == 0 {
		r = p.roll.odd()
	}
	x, e := p.l.Append(r)
	y, f := p.m.appended(r)
	if !sameEntry(x, y) {
		t.Fatalf("Append: %v; want %v", x, y)
	}
	p.check(t, "Append", e, f)
}

func (p *pair) commit(t *testing.T) {
	t.Helper()
	p.check(t, "Commit", p.l.Commit(), p.m.committed())
}

func (p *pair) reclaim(t *testing.T) {
	t.Helper()
	upto := p.m.last() + 1 - p.roll.below(len(p.m.entries)+4)
	if p.roll.below(20) == 0 {
		upto = ends(1099511627776)[p.roll.below(9)]
	}
	p.check(t, "Reclaim", p.l.Reclaim(upto), p.m.reclaimed(upto))
}

func (p *pair) read(t *testing.T) {
	t.Helper()
	pos, n := p.m.s.Tail-1+p.roll.below(p.m.s.Size+2), p.roll.below(p.m.s.Size)-1
	s, e := p.l.Read(pos, n)
	told, f := p.m.read(pos, n)
	if s != told {
		t.Fatalf("Read: %q; want %q", s, told)
	}
	p.check(t, "Read", e, f)
}

func (p *pair) stop(t *testing.T) {
	t.Helper()
	n := p.roll.below(8)
	p.both(func(d *ssd.SSD) { d.Stop(n) })
	p.check(t, "Stop", api.OK, api.OK)
}

func (p *pair) crash(t *testing.T) {
	t.Helper()
	keep := p.roll.fates(p.d.Pending())
	p.both(func(d *ssd.SSD) { d.Crash(keep...) })
	p.check(t, "Crash", api.OK, api.OK)
}

// step does one thing out of all.
func (p *pair) step(t *testing.T) {
	t.Helper()
	switch k := p.roll.below(100); {
	case k < 40:
		p.append(t)
	case k < 55:
		p.commit(t)
	case k < 70:
		p.reclaim(t)
	case k < 80:
		p.read(t)
	case k < 90:
		p.open(t)
	case k < 94:
		p.crash(t)
	case k < 98:
		p.stop(t)
	case k < 99:
		p.format(t)
	case p.roll.below(4) == 0:
		p.both((*ssd.SSD).Lose)
		p.check(t, "Lose", api.OK, api.OK)
	}
}

// P12.1, P12.2, P12.3: long walks of all calls, with devices that stop, crash and are lost: all that is told, and each byte of the device, is as the chapter says.
func TestWalks(t *testing.T) {
	times := map[string]int{}
	for seed := range 400 {
		roll := rolls(seed)
		sectors := 4 + roll.below(20)
		p := &pair{roll: &roll, d: blank(t, sectors), twin: blank(t, sectors), times: times}
		p.format(t)
		for range 150 {
			p.step(t)
			if p.d.Lost() {
				p.step(t)
				p.step(t)
				break
			}
		}
	}
	for what, e := range map[string][]api.Errno{
		"Append":  {api.OK, api.ErrArg, api.ErrKind, api.ErrAlign, api.ErrFull, api.ErrDead, api.ErrRange},
		"Commit":  {api.OK, api.ErrDead},
		"Reclaim": {api.OK, api.ErrRange, api.ErrDead},
		"Read":    {api.OK, api.ErrArg, api.ErrRange, api.ErrDead},
		"Open":    {api.OK, api.ErrFenced, api.ErrNone, api.ErrDead},
		"Format":  {api.OK, api.ErrArg, api.ErrDead},
	} {
		for _, x := range e {
			if times[what+" "+x.Error()] < 3 {
				t.Errorf("%s answers %v only %d times", what, x, times[what+" "+x.Error()])
			}
		}
	}
}

// history is what was done to a log, as the one who did it knows it.
type history struct {
	roll    *rolls
	d       *ssd.SSD
	l       *Log
	epoch   int
	all     []Entry // appended, and not reclaimed
	durable int     // how many of them are
	maybe   int     // how many of them a Reclaim was about that did not answer
	over    bool    // a call did not answer
}

// did notes the error of a call, and tells whether it was done.
func (h *history) did(e api.Errno) bool {
	h.over = h.over || e == api.ErrDead
	return e == api.OK
}

// step appends, commits or reclaims.
func (h *history) step() {
	switch k := h.roll.below(10); {
	case k < 6:
		x, e := h.l.Append(h.roll.record())
		if h.did(e) {
			h.all = append(h.all, x)
		}
	case k < 8:
		if h.did(h.l.Commit()) {
			h.durable = len(h.all)
		}
	case h.durable > 0:
		n := 1 + h.roll.below(h.durable)
		if h.did(h.l.Reclaim(h.all[n-1].Number)) {
			h.all = h.all[n:]
			h.durable = len(h.all)
		} else {
			h.maybe = n
		}
	}
}

// found holds the records that are there against the history: its first ones, the durable ones among them.
func (h *history) found(t *testing.T, l []Entry) {
	t.Helper()
	all, durable := h.all, h.durable
	if h.maybe > 0 && (len(l) == 0 || l[0].Number != all[0].Number) {
		all, durable = all[h.maybe:], durable-h.maybe
	}
	if len(l) > len(all) || len(l) < durable || !sameEntries(l, all[:len(l)]) {
		t.Fatalf("the records are %v; want at least %d of %v", l, durable, all)
	}
}

// P12.4: whatever call the device stops at, behind a crash that keeps nothing, or, where it did not stop, all, the records are the first ones, with all durable ones; and so on, with the log that is opened then.
func TestStopsAndCrashes(t *testing.T) {
	shorter, stopped := 0, 0
	for seed := range 600 {
		roll := rolls(seed)
		d, l := fresh(t, 4+roll.below(20))
		h := &history{roll: &roll, d: d, l: l, epoch: 1}
		for range 12 {
			h.d.Stop(roll.below(60))
			for range 30 {
				if !h.over {
					h.step()
				}
			}
			if h.over {
				stopped++
				h.d.Crash()
			} else {
				h.d.Crash(crashOf(roll.below(2), h.d.Pending())...)
			}
			h.crashesOfOpen(t)
			h.epoch += 1 + roll.below(2)
			h.l = opened(t, h.d, h.epoch)
			now := h.l.Entries()
			h.found(t, now)
			if len(now) < len(h.all) {
				shorter++
			}
			h.all, h.durable, h.maybe, h.over = now, len(now), 0, false
		}
	}
	if shorter < 500 || stopped < 500 {
		t.Errorf("%d times records were not kept, %d times the device stopped", shorter, stopped)
	}
}

// crashOf keeps nothing of n pending writes, or all.
func crashOf(fate, n int) []int {
	l := make([]int, n)
	for i := range l {
		l[i] = fate
	}
	return l
}

// crashesOfOpen stops Open at each of its steps, and keeps any part of what it wrote: the records that are there behind it are the same ones.
func (h *history) crashesOfOpen(t *testing.T) {
	t.Helper()
	first := opened(t, h.d.Copy(), h.epoch+1).Entries()
	for n := range 3 {
		for fate := range 3 {
			d := h.d.Copy()
			d.Stop(n)
			_, e := Open(d, h.epoch+1)
			want(t, "Open", e, dead(n, 2))
			d.Crash(fate, fate)
			d.Stop(n)
			_, e = Open(d, h.epoch+2)
			want(t, "Open again", e, dead(n, 2))
			d.Crash(2-fate, fate)
			if l := opened(t, d, h.epoch+3).Entries(); !sameEntries(l, first) {
				t.Fatalf("stopped at %d, kept %d: the records are %v; want %v", n, fate, l, first)
			}
		}
	}
}

// P12.4: a crash during an Open ahead of which none was, whatever it keeps of what the log wrote and of what Open did: the records are the first ones, with all durable ones.
func TestCrashesDuringOpen(t *testing.T) {
	many := map[int]int{}
	for seed := range 3000 {
		roll := rolls(seed)
		d, l := fresh(t, 6+roll.below(20))
		h := &history{roll: &roll, d: d, l: l, epoch: 1}
		for range roll.below(40) {
			h.step()
		}
		n := roll.below(3)
		d.Stop(n)
		_, e := Open(d, 2)
		want(t, "Open", e, dead(n, 2))
		if e == api.OK {
			h.durable = len(h.all)
		}
		d.Crash(roll.fates(d.Pending())...)
		now := opened(t, d, 3).Entries()
		h.found(t, now)
		many[len(h.all)-len(now)]++
	}
	if many[0] < 100 || many[1] < 100 || many[2] < 20 {
		t.Error(many)
	}
}

// P12.4: a Reclaim that did not answer, of which a crash keeps all, half of it, or nothing: what it was about is gone, or is all there.
func TestReclaimThatDidNotAnswer(t *testing.T) {
	for n := range 2 {
		for fate := range 3 {
			d, l := fresh(t, 12)
			h := &history{d: d, l: l, epoch: 1, maybe: 2}
			for i := range 4 {
				h.all = append(h.all, put(t, l, write("abcd"[i:i+1], sp(i, 1))))
			}
			want(t, "Commit", l.Commit(), api.OK)
			h.durable = 4
			d.Stop(n)
			want(t, "Reclaim", l.Reclaim(2), api.ErrDead)
			d.Crash(fate)
			now := opened(t, d, 2).Entries()
			h.found(t, now)
			gone := n == 1 && fate == 1 // the superblock was written, and all of it is kept
			if (len(now) == 2) != gone || (len(now) == 4) == gone {
				t.Errorf("stopped at %d, kept %d: %v", n, fate, now)
			}
		}
	}
}

// P12.4: what stood on the device from an earlier time is never read as a record: old records of the same numbers and places, behind a log that went on another way.
func TestOldRecords(t *testing.T) {
	for size := 4; size < 9; size++ {
		d, l := fresh(t, size+2)
		epoch := 1
		for round := range 40 {
			for range 3 {
				put(t, l, note("lost"))
			}
			d.Crash(0, 1, 1) // the first one is not there, those behind it are
			epoch++
			l = opened(t, d, epoch)
			if len(l.Entries()) > 1 {
				t.Fatalf("size %d, round %d: %v", size, round, l.Entries())
			}
			if len(l.Entries()) == 1 && l.Entries()[0].Text == "lost" {
				t.Fatalf("size %d, round %d: what was lost is there", size, round)
			}
			put(t, l, note("new"))
			want(t, "Commit", l.Commit(), api.OK)
			epoch++
			l = opened(t, d, epoch)
			if n := len(l.Entries()); n == 0 || l.Entries()[n-1].Text != "new" || n > 2 {
				t.Fatalf("size %d, round %d: %v", size, round, l.Entries())
			}
			want(t, "Reclaim", l.Reclaim(l.Last()-1), api.OK)
		}
	}
}
