package super

import (
	"math"
	"strings"
	"testing"

	"lighter/api"
	"lighter/ssd"
)

var zero = strings.Repeat("\x00", 64)

// P11.1: what is wrong with a superblock, number by number and in all ways together; Encode says the same, or the sector.
func TestNumbers(t *testing.T) {
	for _, epoch := range ends(4294967296) {
		for _, serial := range ends(1099511627776) {
			for _, size := range append(ends(65536), 2, 4097) {
				for _, tail := range ends(1099511627776) {
					for _, first := range ends(1099511627776) {
						checkSuper(t, Super{Key: uint64(tail ^ serial), Epoch: epoch, Serial: serial, Size: size, Tail: tail, Number: first})
					}
				}
			}
		}
	}
	for _, key := range []uint64{0, 1, 255, 1 << 32, math.MaxInt64, 1 << 63, math.MaxUint64} {
		checkSuper(t, Super{Key: key, Size: 1})
	}
}

// P11.1: ErrRange is named ahead of ErrArg; each of the numbers alone tells its own error.
func TestErrorsOfNumbers(t *testing.T) {
	for i, c := range []struct {
		s Super
		e api.Errno
	}{
		{Super{Size: 1}, api.OK}, {Super{}, api.ErrArg}, {Super{Size: 65536, Epoch: 4294967295, Serial: 1099511627775, Tail: 1099511627775, Number: 1099511627775, Key: math.MaxUint64}, api.OK},
		{Super{Size: 1, Epoch: 4294967296}, api.ErrRange}, {Super{Size: 1, Epoch: -1}, api.ErrRange}, {Super{Size: 1, Serial: 1099511627776}, api.ErrRange}, {Super{Size: 1, Serial: -1}, api.ErrRange}, {Super{Size: 1, Number: 1099511627776}, api.ErrRange}, {Super{Size: 1, Number: -1}, api.ErrRange},
		{Super{Size: 65537}, api.ErrArg}, {Super{Size: -1}, api.ErrArg}, {Super{Size: 1, Tail: -1}, api.ErrArg}, {Super{Size: 1, Tail: 1099511627776}, api.ErrArg},
		{Super{Size: 0, Epoch: -1}, api.ErrRange}, {Super{Size: 65537, Serial: -1}, api.ErrRange}, {Super{Size: 1, Tail: -1, Number: -1}, api.ErrRange},
	} {
		b, e := Encode(c.s)
		if got := Check(c.s); got != c.e || e != c.e || (len(b) == 64) != (c.e == api.OK) {
			t.Errorf("%d: %v: %v, %v, %d bytes; want %v", i, c.s, got, e, len(b), c.e)
		}
	}
}

// P11.1: each number stands in its place with the high bytes first, Serial twice, and bytes 0 between.
func TestPlaces(t *testing.T) {
	s := Super{Key: 0x0102030405060708, Epoch: 0x090a0b0c, Size: 0x0d0e, Serial: 0x0f10111213, Tail: 0x1415161718, Number: 0x191a1b1c1d}
	want := "LSUP" + "\x01\x02\x03\x04\x05\x06\x07\x08" + "\x09\x0a\x0b\x0c" + "\x00\x00\x0d\x0e" + "\x00\x00\x00\x0f\x10\x11\x12\x13" + "\x00\x00\x00\x14\x15\x16\x17\x18" + "\x00\x00\x00\x19\x1a\x1b\x1c\x1d" + "\x00\x00\x00\x00\x00\x00\x00\x00" + "\x00\x00\x00\x0f\x10\x11\x12\x13"
	if got, e := Encode(s); got != sealed(want) || len(want) != 60 || e != api.OK {
		t.Errorf("%q, %v", got, e)
	}
	if got, e := Decode(sealed(want)); got != s || e != api.OK {
		t.Errorf("%v, %v", got, e)
	}
	checkSuper(t, s)
}

// P11.1: bytes that are not 64 are ErrAlign, also where a sector begins or ends them.
func TestLengths(t *testing.T) {
	one := sectorOf(Super{Key: 7, Epoch: 1, Serial: 2, Size: 3, Tail: 4, Number: 5})
	for n := range 200 {
		want := api.ErrAlign
		if n == 64 {
			want = api.OK
		}
		many := strings.Repeat(one, 4)
		for _, b := range []string{many[:n], many[len(many)-n:]} {
			if e := checkBytes(t, b); e != want {
				t.Errorf("%d bytes: %v; want %v", n, e, want)
			}
		}
		if e := checkBytes(t, strings.Repeat("\x00", n)); (e == api.ErrSum) != (n == 64) {
			t.Errorf("%d bytes 0: %v", n, e)
		}
	}
}

// P11.1: of which any byte is another one, it is ErrSum; sealed again it is ErrForm, or what it now tells.
func TestOtherBytes(t *testing.T) {
	for _, s := range []Super{{Size: 1}, {Key: 0x0102030405060708, Epoch: 9, Serial: 3, Size: 300, Tail: 70000, Number: 5}, {Key: math.MaxUint64, Epoch: 4294967295, Serial: 1099511627775, Size: 65536, Tail: 1099511627775, Number: 1099511627775}} {
		b := sectorOf(s)
		for i := range b {
			for x := range 255 {
				turned := b[:i] + string([]byte{b[i] ^ byte(x+1)}) + b[i+1:]
				if e := checkBytes(t, turned); e != api.ErrSum {
					t.Errorf("byte %d turned by %d: %v", i, x+1, e)
				}
				e := checkBytes(t, sealed(turned[:60]))
				if free := i >= 4 && i < 16; free && e != api.OK { // a key and an epoch may be any
					t.Errorf("byte %d turned by %d, sealed again: %v", i, x+1, e)
				}
				if fixed := i < 4 || i >= 20 && i < 28 || i >= 44 && i < 60; fixed && e != api.ErrForm { // the mark, Serial, bytes 0, and Serial again
					t.Errorf("byte %d turned by %d, sealed again: %v", i, x+1, e)
				}
			}
		}
	}
}

// P11.1: numbers that no superblock has are ErrForm, up to the greatest that so many bytes tell.
func TestNumbersOfNone(t *testing.T) {
	numbers := []uint64{0, 1, 65535, 65536, 65537, 1 << 31, 1<<32 - 1, 1<<40 - 1, 1 << 40, 1<<40 + 1, 1 << 62, 1<<63 - 1, 1 << 63, 1<<63 + 1, math.MaxUint64}
	came := map[api.Errno]int{}
	for _, x := range numbers {
		b := unsealed(Super{Key: 1, Epoch: 2, Serial: 3, Size: 4, Tail: 5, Number: 6})
		for _, again := range numbers {
			came[checkBytes(t, sealed(b[:20]+high(x, 8)+b[28:52]+high(again, 8)))]++ // both Serials
		}
		came[checkBytes(t, sealed(b[:28]+high(x, 8)+b[36:]))]++         // Tail
		came[checkBytes(t, sealed(b[:36]+high(x, 8)+b[44:]))]++         // Number
		came[checkBytes(t, sealed(b[:44]+high(x, 8)+b[52:]))]++         // bytes 0
		came[checkBytes(t, sealed(b[:16]+high(x%(1<<32), 4)+b[20:]))]++ // Size
	}
	if len(came) != 2 || came[api.OK] == 0 || came[api.ErrForm] == 0 {
		t.Error(came)
	}
	for _, b := range []string{zero[:60], "LSUP" + zero[:56], strings.Repeat("\xff", 60), "LSUP" + strings.Repeat("\xff", 56)} {
		if e := checkBytes(t, sealed(b)); e != api.ErrForm {
			t.Errorf("%q: %v", b, e)
		}
	}
}

// P11.2: the sector of an even Serial is 0, that of another one is 1, whether it may be or not.
func TestSlot(t *testing.T) {
	for _, c := range []struct{ serial, slot int }{{0, 0}, {1, 1}, {2, 0}, {3, 1}, {4, 0}, {1099511627775, 1}, {1099511627776, 0}, {-1, 1}, {-2, 0}, {-3, 1}, {math.MaxInt, 1}, {math.MinInt, 0}, {math.MinInt + 1, 1}} {
		if got := Slot(Super{Serial: c.serial}); got != c.slot {
			t.Errorf("Slot of %d: %d; want %d", c.serial, got, c.slot)
		}
	}
}

// P11.2: of two sectors the later one that is right and in its place, of all pairs of sectors of all kinds.
func TestPick(t *testing.T) {
	l := []string{"", "LSUP", zero, zero + zero}
	for _, serial := range []int{0, 1, 2, 3, 4, 1<<40 - 2, 1<<40 - 1} {
		b := sectorOf(Super{Key: uint64(serial), Epoch: 1, Serial: serial, Size: 4, Tail: 9 - serial%8, Number: 3})
		l = append(l, b, b[:63], b+"x", b[:63]+string([]byte{^b[63]}), sealed("LSUQ"+b[4:60]), sealed(b[:59]+string([]byte{^b[59]})))
	}
	for _, a := range l {
		for _, b := range l {
			checkPick(t, a, b)
		}
	}
	one, two := sectorOf(Super{Serial: 7, Size: 4, Tail: 9, Number: 9}), sectorOf(Super{Serial: 8, Size: 4})
	for i, c := range []struct {
		a, b string
		slot int
		e    api.Errno
	}{{two, one, 0, api.OK}, {one, two, 0, api.ErrNone}, {zero, one, 1, api.OK}, {two, zero, 0, api.OK}, {one, one, 1, api.OK}, {two, two, 0, api.OK}, {zero, zero, 0, api.ErrNone}, {one, "", 0, api.ErrNone}} {
		s, slot, e := Pick(c.a, c.b)
		if e != c.e || slot != c.slot || (s == Super{}) != (e != api.OK) || e == api.OK && s.Serial != 8-slot {
			t.Errorf("%d: %v, %d, %v", i, s, slot, e)
		}
	}
}

// P11.2: the one behind has a Serial 1 more, and the tail and number it is told; each error in its order.
func TestNext(t *testing.T) {
	s := Super{Key: 8, Epoch: 9, Serial: 3, Size: 300, Tail: 70, Number: 5}
	last := Super{Size: 1, Serial: 1<<40 - 1, Tail: 70, Number: 5}
	for i, c := range []struct {
		s            Super
		tail, number int
		e            api.Errno
	}{
		{s, 71, 6, api.OK}, {s, 70, 5, api.OK}, {s, 1<<40 - 1, 1<<40 - 1, api.OK}, {s, 700000, 5, api.OK},
		{s, 69, 6, api.ErrArg}, {s, 71, 4, api.ErrArg}, {s, -1, 6, api.ErrArg}, {s, 71, -1, api.ErrArg}, {s, 1 << 40, 6, api.ErrArg}, {s, 71, 1 << 40, api.ErrRange}, {s, 1 << 40, 1 << 40, api.ErrRange}, {s, 69, 1 << 40, api.ErrArg},
		{last, 71, 6, api.ErrRange}, {last, 69, 6, api.ErrArg}, {last, 1 << 40, 6, api.ErrRange},
		{Super{}, 0, 0, api.ErrArg}, {Super{Size: 1, Epoch: -1}, 0, 0, api.ErrRange}, {Super{Size: 1, Epoch: -1, Tail: 5}, 4, 0, api.ErrRange}, {Super{Size: 1, Serial: -1}, 0, 0, api.ErrRange}, {Super{Size: 65537, Tail: 5}, 5, 1 << 40, api.ErrArg},
	} {
		checkNext(t, c.s, c.tail, c.number)
		if _, e := Next(c.s, c.tail, c.number); e != c.e {
			t.Errorf("%d: %v; want %v", i, e, c.e)
		}
	}
	for _, from := range []int{-1, 0, 1, 5, 1<<40 - 1, 1 << 40} {
		for _, serial := range ends(1 << 40) {
			for _, tail := range append(ends(1<<40), 4, 5, 6) {
				for _, number := range append(ends(1<<40), 4, 5, 6) {
					checkNext(t, Super{Key: 1, Epoch: 2, Serial: serial, Size: 3, Tail: from, Number: 5}, tail, number)
					checkNext(t, Super{Key: 1, Epoch: 2, Serial: serial, Size: 3, Tail: 5, Number: from}, tail, number)
				}
			}
		}
	}
}

// P11.3: what is encoded is decoded, and what is decoded is encoded as the same sector.
func TestThereAndBack(t *testing.T) {
	roll := rolls(1)
	for range 20000 {
		s := roll.super()
		checkSuper(t, s)
		b, e := Encode(s)
		again, f := Decode(b)
		if back, g := Encode(again); back != b || again != s || e != api.OK || f != api.OK || g != api.OK {
			t.Fatalf("%v: %v, %v, %v, %v", s, again, e, f, g)
		}
		other := roll.super()
		other.Serial = s.Serial ^ 1
		sectors := [2]string{sectorOf(s), sectorOf(other)}
		if Slot(s) == 1 {
			sectors[0], sectors[1] = sectors[1], sectors[0]
		}
		checkPick(t, sectors[0], sectors[1])
		checkNext(t, s, s.Tail+roll.any(99), s.Number+roll.any(99))
	}
}

// torn is the sectors that may be there, where one is written over another: both, and the first bytes of either with the last ones of the other.
func torn(was, is string) []string {
	l := []string{was, is}
	for i := range is {
		l = append(l, is[:i]+was[i:], was[:i]+is[i:])
	}
	return l
}

// P11.3: whatever becomes of the sector of a Next, Pick answers it or the one ahead; so does the whole way go on from there.
func TestTorn(t *testing.T) {
	roll := rolls(2)
	for range 60 {
		s := roll.super()
		s.Serial = roll.below(9)
		var sectors [2]string
		for i := range sectors {
			sectors[i] = []string{zero, strings.Repeat("\xff", 64)}[roll.below(2)]
		}
		sectors[Slot(s)] = sectorOf(s)
		for range 40 {
			next, e := Next(s, s.Tail+roll.any(1<<33), s.Number+roll.any(1<<33))
			if e != api.OK {
				break
			}
			at := Slot(next)
			may := torn(sectors[at], sectorOf(next))
			for _, b := range may {
				sectors[at] = b
				got := gotPick(sectors[0], sectors[1])
				if got != (answer{s: s, slot: 1 - at}) && got != (answer{s: next, slot: at}) {
					t.Fatalf("%q, %q: %v; want %v or %v", sectors[0], sectors[1], got, next, s)
				}
				if kept := b == sectorOf(next); kept != (got.s == next) {
					t.Fatalf("%q, %q: %v", sectors[0], sectors[1], got)
				}
			}
			lost, kept := may[0], may[1]
			sectors[at] = []string{lost, kept, kept[:32] + lost[32:]}[roll.below(3)] // as a device's crash leaves it
			s, _, _ = Pick(sectors[0], sectors[1])
		}
	}
}

// P11.3: a tear that the check sum does not show, as it was sealed again, the two Serials show.
func TestSerialTwice(t *testing.T) {
	was := Super{Key: 1, Epoch: 2, Serial: 5, Size: 4, Tail: 6, Number: 7}
	is := Super{Key: 1, Epoch: 2, Serial: 7, Size: 4, Tail: 9, Number: 8}
	for i := 28; i <= 52; i++ {
		if e := checkBytes(t, sealed(unsealed(is)[:i]+unsealed(was)[i:])); e != api.ErrForm {
			t.Errorf("torn at %d: %v", i, e)
		}
	}
}

// P11.3: on a device, a Next that was not made to last is lost, kept or torn by the crash; each way one of the two is there.
func TestCrashes(t *testing.T) {
	roll := rolls(3)
	d, _ := ssd.New(2)
	s := Super{Key: 77, Epoch: 1, Size: 4}
	d.Write(Slot(s), sectorOf(s))
	d.Barrier()
	var came [3]int
	for range 300 {
		next, e := Next(s, s.Tail+1+roll.below(9), s.Number+roll.below(3))
		b, f := Encode(next)
		g := d.Write(Slot(next), b)
		if e != api.OK || f != api.OK || g != api.OK {
			t.Fatal(e, f, g)
		}
		fate := roll.below(3)
		d.Crash(fate)
		want := s
		if fate == 1 {
			want = next
		}
		all, _ := d.Read(0, 2)
		got, slot, e := Pick(all[:64], all[64:])
		if got != want || slot != Slot(want) || e != api.OK {
			t.Fatalf("fate %d of %v: %v, %d, %v; want %v", fate, next, got, slot, e, want)
		}
		came[fate]++
		s = got
	}
	if min(came[0], came[1], came[2]) < 50 {
		t.Error(came)
	}
}

// The chapter's examples.
func TestExamples(t *testing.T) {
	s := Super{Serial: 3, Size: 1}
	next, e := Next(s, 0, 0)
	if Slot(s) != 1 || next.Serial != 4 || Slot(next) != 0 || e != api.OK {
		t.Error(Slot(s), next, e)
	}
	if got := gotPick(zero, zero); got != (answer{e: api.ErrNone}) {
		t.Error(got)
	}
}
