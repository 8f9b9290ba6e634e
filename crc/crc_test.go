package crc

import (
	"math"
	"slices"
	"strings"
	"testing"

	"lighter/api"
)

// slowMore is the check sum as the document's words tell it: bit by bit.
func slowMore(crc uint32, s string) uint32 {
	register := ^crc
	for _, b := range []byte(s) {
		register ^= uint32(b)
		for range 8 {
			out := register & 1
			register >>= 1
			if out == 1 {
				register ^= 0x82f63b78
			}
		}
	}
	return ^register
}

// slowKey is the key as the document's words tell it.
func slowKey(l ...string) uint64 {
	var all []byte
	for _, part := range l {
		n := len(part)
		for range 8 {
			all = append(all, byte(n%256))
			n /= 256
		}
		all = append(all, part...)
	}
	key := uint64(14695981039346656037)
	for _, b := range all {
		key ^= uint64(b)
		key *= 1099511628211
	}
	return key
}

// texts is bytes of many kinds and lengths: none, each byte alone, zeros, ones, mixed ones, and long ones.
func texts() []string {
	l := []string{"", "123456789", "\x00\x00", "\xff\xff\xff", "ab", "ba", "héllo\xf0", strings.Repeat("\x00", 64), strings.Repeat("\xff", 65)}
	for b := range 256 {
		l = append(l, string([]byte{byte(b)}))
	}
	for _, n := range []int{3, 4, 5, 31, 32, 33, 64, 255, 256, 257, 1000} {
		l = append(l, mixed(n))
	}
	return l
}

// mixed is n bytes that repeat late.
func mixed(n int) string {
	b := make([]byte, n)
	x := uint32(n)
	for i := range b {
		x = x*1664525 + 1013904223
		b[i] = byte(x >> 24)
	}
	return string(b)
}

// sums is check sums to begin with, the ends among them.
func sums() []uint32 { return []uint32{0, 1, 7, 0x80000000, math.MaxUint32, 0xe3069283, 0x82f63b78} }

func TestSumOfKnownBytes(t *testing.T) {
	for _, c := range []struct {
		s    string
		want uint32
	}{
		{"", 0},
		{"a", 0xc1d04330},
		{"123456789", 0xe3069283},
		{strings.Repeat("\x00", 32), 0x8a9136aa},
		{strings.Repeat("\xff", 32), 0x62a8ab43},
	} {
		if got := Sum(c.s); got != c.want {
			t.Errorf("Sum(%q) = %#x, want %#x", c.s, got, c.want)
		}
	}
	if got := Sum("1234", "56789"); got != 0xe3069283 {
		t.Errorf("Sum of two parts: %#x", got)
	}
}

func TestSumAndMoreFollowTheWords(t *testing.T) {
	for _, s := range texts() {
		if got, want := Sum(s), slowMore(0, s); got != want {
			t.Errorf("Sum(%q) = %#x, want %#x", s, got, want)
		}
		for _, c := range sums() {
			if got, want := More(c, s), slowMore(c, s); got != want {
				t.Errorf("More(%#x, %q) = %#x, want %#x", c, s, got, want)
			}
		}
	}
}

func TestOfNoParts(t *testing.T) {
	var none []string
	if Sum() != 0 || Sum(none...) != 0 || Sum("", "") != 0 {
		t.Error("a sum of no bytes is not 0")
	}
	for _, c := range sums() {
		if More(c) != c || More(c, none...) != c || More(c, "", "") != c {
			t.Errorf("More(%#x) of no bytes is another one", c)
		}
	}
}

func TestPartingDoesNotCount(t *testing.T) {
	s := mixed(40)
	want := Sum(s)
	for i := 0; i <= len(s); i++ {
		for k := i; k <= len(s); k++ {
			a, b, c := s[:i], s[i:k], s[k:]
			if Sum(a, b, c) != want || More(Sum(a), b, c) != want || More(Sum(a, b), c) != want || More(More(Sum(a), b), c) != want {
				t.Fatalf("parted at %d and %d", i, k)
			}
		}
	}
	letters := strings.Split(s, "")
	if strings.Join(letters, "") != s || Sum(letters...) != want {
		t.Error("parted into letters")
	}
}

func TestZerosAreBytes(t *testing.T) {
	for _, c := range sums() {
		for _, n := range []int{1, 2, 3, 4, 7, 8, 9, 31, 32, 33, 63, 64, 65, 255, 256, 1000, 4095, 65536, 100003} {
			if got, want := Zeros(c, n), slowMore(c, strings.Repeat("\x00", n)); got != want {
				t.Errorf("Zeros(%#x, %d) = %#x, want %#x", c, n, got, want)
			}
		}
	}
	if got := Zeros(0, 32); got != 0x8a9136aa {
		t.Errorf("Zeros(0, 32) = %#x", got)
	}
}

func TestZerosBelowOne(t *testing.T) {
	for _, c := range sums() {
		for _, n := range []int{0, -1, -2, -32, math.MinInt32, math.MinInt + 1, math.MinInt} {
			if got := Zeros(c, n); got != c {
				t.Errorf("Zeros(%#x, %d) = %#x", c, n, got)
			}
		}
	}
}

// The polynomial is x+1 times a primitive one: its powers come round after 2^31-1 bits, and so do bytes. With
// that, as many zeros as no test could go through are held against few.
func TestManyZerosComeRound(t *testing.T) {
	const round = 1<<31 - 1
	for _, c := range sums() {
		if got := Zeros(c, round); got != c {
			t.Fatalf("Zeros(%#x, 2^31-1) = %#x", c, got)
		}
		for _, n := range []int{math.MaxInt, math.MaxInt - 1, 1 << 62, 1<<62 - 1, 1 << 40, round + 5, round - 1} {
			if got, want := Zeros(c, n), Zeros(c, n%round); got != want {
				t.Errorf("Zeros(%#x, %d) = %#x, want %#x", c, n, got, want)
			}
			if got, want := Zeros(Zeros(c, n/3), n-n/3), Zeros(c, n); got != want {
				t.Errorf("Zeros(%#x, %d) in two steps = %#x, want %#x", c, n, got, want)
			}
		}
	}
}

func TestSealOfKnownBytes(t *testing.T) {
	for s, want := range map[string]string{
		"":          "\x00\x00\x00\x00",
		"a":         "a\x30\x43\xd0\xc1",
		"123456789": "123456789\x83\x92\x06\xe3",
	} {
		if got := Seal(s); got != want {
			t.Errorf("Seal(%q) = %q, want %q", s, got, want)
		}
	}
}

func TestSealedIsOpened(t *testing.T) {
	for _, s := range texts() {
		sealed := Seal(s)
		if len(sealed) != len(s)+4 || sealed[:len(s)] != s {
			t.Errorf("Seal(%q) = %q", s, sealed)
		}
		if got, e := Open(sealed); got != s || e != api.OK {
			t.Errorf("Open(Seal(%q)) = %q, %d", s, got, int(e))
		}
		if got, e := Open(Seal(sealed)); got != sealed || e != api.OK {
			t.Errorf("sealed twice: %q, %d", got, int(e))
		}
	}
}

func TestAnotherByteIsNotOpened(t *testing.T) {
	for _, s := range []string{"", "a", "123456789", mixed(64)} {
		sealed := []byte(Seal(s))
		for i, was := range sealed {
			for b := range 256 {
				if byte(b) == was {
					continue
				}
				sealed[i] = byte(b)
				if got, e := Open(string(sealed)); got != "" || e != api.ErrSum {
					t.Fatalf("Open(%q) = %q, %d", sealed, got, int(e))
				}
			}
			sealed[i] = was
		}
	}
}

func TestOpenOfWrongBytes(t *testing.T) {
	sealed := Seal("123456789")
	for _, c := range []struct {
		s string
		e api.Errno
	}{
		{"", api.ErrShort},
		{"a", api.ErrShort},
		{"abc", api.ErrShort},
		{"\x00\x00\x00", api.ErrShort},
		{"\x00\x00\x00\x00", api.OK},
		{"abcd", api.ErrSum},
		{"\x00\x00\x00\x00\x00", api.ErrSum},
		{"\x01\x00\x00\x00", api.ErrSum},
		{"\x00\x00\x00\x01", api.ErrSum},
		{sealed[1:], api.ErrSum},
		{sealed[:len(sealed)-1], api.ErrSum},
		{sealed + "\x00", api.ErrSum},
		{"123456789\xe3\x06\x92\x83", api.ErrSum},
	} {
		if got, e := Open(c.s); got != "" || e != c.e {
			t.Errorf("Open(%q) = %q, %d, want %d", c.s, got, int(e), int(c.e))
		}
	}
}

func TestKeyOfKnownParts(t *testing.T) {
	if got := Key(); got != 14695981039346656037 {
		t.Errorf("Key() = %d", got)
	}
	var none []string
	if got := Key(none...); got != 14695981039346656037 {
		t.Errorf("Key of a nil list = %d", got)
	}
	if Key("") == Key() || Key("", "") == Key("") {
		t.Error("a part without bytes is not counted")
	}
}

func TestKeyFollowsTheWords(t *testing.T) {
	long := mixed(70000)
	lists := [][]string{{}, {""}, {"", ""}, {"a", "b"}, {"ab"}, {"", "ab"}, {"ab", ""}, {long}, {long, "a", long}, {"\xff", "\x00"}}
	for _, s := range texts() {
		lists = append(lists, []string{s}, []string{s, s})
	}
	for _, l := range lists {
		if got, want := Key(l...), slowKey(l...); got != want {
			t.Errorf("Key(%.40q) = %d, want %d", l, got, want)
		}
	}
}

// Each way to part five bytes into any number of parts that have some has a key of its own, and so has each with a part of none put in.
func TestKeyTellsPartsApart(t *testing.T) {
	s := "aaaaa"
	seen := map[uint64][]string{}
	add := func(l []string) {
		k := Key(l...)
		if other, ok := seen[k]; ok && !slices.Equal(other, l) {
			t.Errorf("%q and %q have one key", l, other)
		}
		seen[k] = slices.Clone(l)
	}
	for cuts := range 1 << (len(s) - 1) {
		var l []string
		from := 0
		for i := 1; i <= len(s); i++ {
			if i == len(s) || cuts>>(i-1)&1 == 1 {
				l = append(l, s[from:i])
				from = i
			}
		}
		add(l)
		for i := 0; i <= len(l); i++ {
			add(slices.Insert(slices.Clone(l), i, ""))
		}
	}
	// Of k parts there are 4 over k-1 ways, each of them with k+1 places for a part of none.
	if len(seen) != 80 {
		t.Errorf("%d keys", len(seen))
	}
	if Key("a", "b") == Key("b", "a") {
		t.Error("the order of parts does not count")
	}
}

func TestPartsAreNotChanged(t *testing.T) {
	l := []string{"ab", "", "c", "behind"}
	was := slices.Clone(l)
	Sum(l[:3]...)
	More(5, l[:3]...)
	Key(l[:3]...)
	if !slices.Equal(l, was) {
		t.Errorf("%q", l)
	}
}

func TestTableOfFourBits(t *testing.T) {
	for i, got := range fourBits {
		want := uint32(i)
		for range 4 {
			want = want>>1 ^ 0x82f63b78*(want&1)
		}
		if got != want {
			t.Errorf("fourBits[%d] = %#x, want %#x", i, got, want)
		}
	}
}
