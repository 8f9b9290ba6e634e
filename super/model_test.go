package super

import (
	"math"
	"strings"
	"testing"

	"lighter/api"
)

// The chapter's words, told another way than the program tells them: byte by byte and bit by bit.

// sumOf is the check sum of bytes, a bit at a time.
func sumOf(s string) uint32 {
	register := ^uint32(0)
	for _, b := range []byte(s) {
		register ^= uint32(b)
		for range 8 {
			fell := register & 1
			register >>= 1
			if fell == 1 {
				register ^= 0x82f63b78
			}
		}
	}
	return ^register
}

// sealed is bytes with their check sum behind them, the lowest byte first.
func sealed(s string) string {
	x := sumOf(s)
	return s + string([]byte{byte(x), byte(x >> 8), byte(x >> 16), byte(x >> 24)})
}

// high is a number as four bytes or eight, the high ones first.
func high(x uint64, n int) string {
	s := ""
	for range n {
		s = string([]byte{byte(x % 256)}) + s
		x /= 256
	}
	return s
}

// number is the number that bytes tell, the high ones first.
func number(s string) uint64 {
	x := uint64(0)
	for _, b := range []byte(s) {
		x = x*256 + uint64(b)
	}
	return x
}

// unsealed is a superblock's bytes ahead of the check sum, whether it may be or not.
func unsealed(s Super) string {
	b := "LSUP" + high(s.Key, 8) + high(uint64(s.Epoch), 4) + high(uint64(s.Size), 4)
	b += high(uint64(s.Serial), 8) + high(uint64(s.Tail), 8) + high(uint64(s.Number), 8)
	return b + strings.Repeat("\x00", 52-len(b)) + high(uint64(s.Serial), 8)
}

// sectorOf is a superblock's sector.
func sectorOf(s Super) string { return sealed(unsealed(s)) }

// wrong is what is wrong with a superblock.
func wrong(s Super) api.Errno {
	switch {
	case s.Epoch < 0 || s.Epoch >= 4294967296:
		return api.ErrRange
	case s.Serial < 0 || s.Serial >= 1099511627776 || s.Number < 0 || s.Number >= 1099511627776:
		return api.ErrRange
	case s.Size < 1 || s.Size > 65536 || s.Tail < 0 || s.Tail >= 1099511627776:
		return api.ErrArg
	}
	return api.OK
}

// answer is what Encode, Decode, Pick or Next answers: what a call has no result for is zero.
type answer struct {
	bytes string
	s     Super
	slot  int
	e     api.Errno
}

func encoded(s Super) answer {
	if e := wrong(s); e != api.OK {
		return answer{e: e}
	}
	return answer{bytes: sectorOf(s)}
}

func decoded(b string) answer {
	switch {
	case len(b) != 64:
		return answer{e: api.ErrAlign}
	case sealed(b[:60]) != b:
		return answer{e: api.ErrSum}
	case b[:4] != "LSUP" || strings.Trim(b[44:52], "\x00") != "" || b[20:28] != b[52:60]:
		return answer{e: api.ErrForm}
	}
	size, serial, tail, first := number(b[16:20]), number(b[20:28]), number(b[28:36]), number(b[36:44])
	if size < 1 || size > 65536 || max(serial, tail, first) >= 1099511627776 {
		return answer{e: api.ErrForm}
	}
	return answer{s: Super{
		Key:    number(b[4:12]),
		Epoch:  int(number(b[12:16])),
		Serial: int(serial),
		Size:   int(size),
		Tail:   int(tail),
		Number: int(first),
	}}
}

// picked is the later one of those that stand where they belong: of the even ones in a, of the odd ones in b.
func picked(a, b string) answer {
	even, odd := decoded(a), decoded(b)
	evenIs := even.e == api.OK && even.s.Serial%2 == 0
	oddIs := odd.e == api.OK && odd.s.Serial%2 == 1
	odd.slot = 1
	switch {
	case evenIs && oddIs && even.s.Serial > odd.s.Serial, evenIs && !oddIs:
		return even
	case oddIs:
		return odd
	}
	return answer{e: api.ErrNone}
}

func followed(s Super, tail, number int) answer {
	if e := wrong(s); e != api.OK {
		return answer{e: e}
	}
	if tail < s.Tail || number < s.Number {
		return answer{e: api.ErrArg}
	}
	next := Super{Key: s.Key, Epoch: s.Epoch, Serial: s.Serial + 1, Size: s.Size, Tail: tail, Number: number}
	if e := wrong(next); e != api.OK {
		return answer{e: e}
	}
	return answer{s: next}
}

// gotEncode is what Encode answers; so are gotDecode, gotPick and gotNext of theirs.
func gotEncode(s Super) answer {
	b, e := Encode(s)
	return answer{bytes: b, e: e}
}

func gotDecode(b string) answer {
	s, e := Decode(b)
	return answer{s: s, e: e}
}

func gotPick(a, b string) answer {
	s, slot, e := Pick(a, b)
	return answer{s: s, slot: slot, e: e}
}

func gotNext(s Super, tail, number int) answer {
	next, e := Next(s, tail, number)
	return answer{s: next, e: e}
}

// checkSuper holds what is told of a superblock against the model, and what is read of its sector.
func checkSuper(t *testing.T, s Super) {
	t.Helper()
	if got, want := Check(s), wrong(s); got != want {
		t.Errorf("Check of %v: %v; want %v", s, got, want)
	}
	want := encoded(s)
	if got := gotEncode(s); got != want {
		t.Errorf("Encode of %v: %v; want %v", s, got, want)
	}
	if got := gotDecode(want.bytes); want.e == api.OK && got != (answer{s: s}) {
		t.Errorf("%v is decoded as %v", s, got)
	}
	slot := 0
	if s.Serial%2 != 0 {
		slot = 1
	}
	if got := Slot(s); got != slot {
		t.Errorf("Slot of %v: %d; want %d", s, got, slot)
	}
}

// checkBytes holds what is read of bytes against the model; it answers how Decode ended.
func checkBytes(t *testing.T, b string) api.Errno {
	t.Helper()
	got, want := gotDecode(b), decoded(b)
	if got != want {
		t.Errorf("Decode of %q: %v; want %v", b, got, want)
	}
	return got.e
}

// checkPick holds Pick against the model.
func checkPick(t *testing.T, a, b string) {
	t.Helper()
	if got, want := gotPick(a, b), picked(a, b); got != want {
		t.Errorf("Pick of %q, %q: %v; want %v", a, b, got, want)
	}
}

// checkNext holds Next against the model.
func checkNext(t *testing.T, s Super, tail, number int) {
	t.Helper()
	if got, want := gotNext(s, tail, number), followed(s, tail, number); got != want {
		t.Errorf("Next of %v with %d, %d: %v; want %v", s, tail, number, got, want)
	}
}

// ends is the numbers around 0 and around an end, and the farthest ones.
func ends(end int) []int {
	return []int{math.MinInt, -end, -1, 0, 1, end - 1, end, end + 1, math.MaxInt}
}

// rolls is a row of numbers that looks like chance, and is the same each time.
type rolls uint64

func (r *rolls) below(n int) int {
	*r = *r*6364136223846793005 + 1442695040888963407
	return int(uint64(*r)>>33) % n
}

// any is a number of few or many bits, from 0 on and below end.
func (r *rolls) any(end int) int {
	return (r.below(1<<30)<<20 ^ r.below(1<<20)) >> r.below(51) % end
}

// super is a superblock that may be.
func (r *rolls) super() Super {
	return Super{
		Key:    uint64(r.any(1<<50))<<14 ^ uint64(r.any(1<<30)),
		Epoch:  r.any(4294967296),
		Serial: r.any(1099511627776),
		Size:   1 + r.any(65536),
		Tail:   r.any(1099511627776),
		Number: r.any(1099511627776),
	}
}
