package wire

import (
	"math"
	"slices"
	"strconv"
	"strings"
	"testing"

	"lighter/api"
)

// slowVar is a number in few bytes as the document's words tell it: bit by bit.
func slowVar(x uint64) string {
	digits := strconv.FormatUint(x, 2)
	for n := 1; n <= 9; n++ {
		room := 7 * n
		head := strings.Repeat("1", n-1) + "0"
		if n == 9 {
			room, head = 64, "11111111"
		}
		if len(digits) <= room {
			return bytesOf(head + strings.Repeat("0", room-len(digits)) + digits)
		}
	}
	panic("no number is so great")
}

// bytesOf is bits, eight a byte.
func bytesOf(bits string) string {
	var l []byte
	for ; bits != ""; bits = bits[8:] {
		b, err := strconv.ParseUint(bits[:8], 2, 8)
		if err != nil {
			panic(err)
		}
		l = append(l, byte(b))
	}
	return string(l)
}

// numbers is many numbers in order, each once: small ones, and those about each power of two.
func numbers() []uint64 {
	var l []uint64
	for x := range uint64(20000) {
		l = append(l, x)
	}
	for k := range 64 {
		for d := range uint64(3) {
			l = append(l, uint64(1)<<k-1+d, 0xa5c3f00f9669b42d>>k+d)
		}
	}
	l = append(l, math.MaxUint64, math.MaxUint64-1, math.MaxInt64)
	slices.Sort(l)
	return slices.Compact(l)
}

func TestVarIsAsTheWordsTell(t *testing.T) {
	for _, x := range numbers() {
		want := slowVar(x)
		var o Out
		o.Var(x)
		if o.String() != want || Size(x) != len(want) {
			t.Fatalf("%d: %q, size %d, want %q", x, o.String(), Size(x), want)
		}
	}
}

func TestVarExamples(t *testing.T) {
	for _, c := range []struct {
		x    uint64
		want string
	}{
		{5, "\x05"},
		{300, "\x81\x2c"},
		{math.MaxUint64, strings.Repeat("\xff", 9)},
	} {
		var o Out
		o.Var(c.x)
		if o.String() != c.want {
			t.Errorf("%d: %q", c.x, o.String())
		}
	}
	r := Read("\x80\x05")
	if x := r.Var(); x != 0 || r.Err() != api.ErrForm {
		t.Error(x, r.Err())
	}
}

func TestSizeAtItsEdges(t *testing.T) {
	for n := 1; n <= 8; n++ {
		most := uint64(1)<<(7*n) - 1
		if Size(most) != n || Size(most+1) != n+1 {
			t.Error(n, Size(most), Size(most+1))
		}
	}
	if Size(0) != 1 || Size(math.MaxUint64) != 9 {
		t.Error(Size(0), Size(math.MaxUint64))
	}
}

func TestOutFixed(t *testing.T) {
	const x = 0x0102030405060708
	for n := 1; n <= 8; n++ {
		var o Out
		if e := o.Fixed(x, n); e != api.OK || o.String() != "\x01\x02\x03\x04\x05\x06\x07\x08"[8-n:] {
			t.Errorf("%d: %v %q", n, e, o.String())
		}
	}
	var o Out
	o.Raw("ahead")
	for _, n := range []int{0, 9, -1, 64, math.MinInt, math.MaxInt} {
		if e := o.Fixed(x, n); e != api.ErrArg || o.String() != "ahead" {
			t.Errorf("%d: %v %q", n, e, o.String())
		}
	}
}

func TestOutIsOneBehindTheOther(t *testing.T) {
	var o Out
	if o.String() != "" {
		t.Errorf("a zero one has %q", o.String())
	}
	o.Var()
	o.Text()
	o.Raw()
	o.Raw("")
	if o.String() != "" {
		t.Errorf("nothing was written, but %q", o.String())
	}
	o.Var(1, 300, 0)
	o.Text("ab", "", "c")
	o.Raw("d", "", "ef")
	if e := o.Fixed(0x4142, 2); e != api.OK {
		t.Error(e)
	}
	want := "\x01\x81\x2c\x00" + "\x02ab\x00\x01c" + "def" + "AB"
	if o.String() != want || o.String() != want {
		t.Errorf("%q", o.String())
	}
}

func TestOutTextOfManyBytes(t *testing.T) {
	for _, n := range []int{127, 128, 1<<14 - 1, 1 << 14} {
		s := strings.Repeat("\xff", n)
		var o Out
		o.Text(s, "x")
		if o.String() != slowVar(uint64(n))+s+"\x01x" {
			t.Error(n)
		}
	}
}

func TestOutMemory(t *testing.T) {
	var o Out
	o.Raw("abc")
	old := o.String()
	numbers := []uint64{1, 2, 3}
	texts := []string{"x", "y", "z"}
	o.Var(numbers[:2]...)
	o.Text(texts[:2]...)
	o.Raw(texts[:2]...)
	if old != "abc" {
		t.Errorf("what was answered is %q now", old)
	}
	if !slices.Equal(numbers, []uint64{1, 2, 3}) || !slices.Equal(texts, []string{"x", "y", "z"}) {
		t.Error("an argument was written into", numbers, texts)
	}
	numbers[0], texts[0] = 9, "q"
	if o.String() != "abc\x01\x02\x01x\x01yxy" {
		t.Errorf("%q", o.String())
	}
}

func TestNilOut(t *testing.T) {
	var o *Out
	o.Var(1)
	o.Text("a")
	o.Raw("a")
	if o.String() != "" || o.Fixed(1, 1) != api.ErrNil || o.Fixed(1, 0) != api.ErrNil {
		t.Error("a nil one answers otherwise")
	}
}

func TestInFixed(t *testing.T) {
	const s = "\xf1\x02\x03\x04\x05\x06\x07\x08\x09"
	want := uint64(0)
	for n := 1; n <= 8; n++ {
		want = want<<8 + uint64(s[n-1])
		r := Read(s)
		if x := r.Fixed(n); x != want || r.At() != n || r.Left() != len(s)-n || r.Err() != api.OK {
			t.Errorf("%d: %x at %d, %v", n, x, r.At(), r.Err())
		}
	}
}

func TestInVarReadsEachNumber(t *testing.T) {
	for _, x := range numbers() {
		s := slowVar(x)
		r := Read("ab" + s + "z")
		r.Raw(2)
		if got := r.Var(); got != x || r.At() != 2+len(s) || r.Left() != 1 || r.Err() != api.OK {
			t.Fatalf("%d: %d at %d, %v", x, got, r.At(), r.Err())
		}
		for k := range s {
			r := Read(s[:k])
			if got := r.Var(); got != 0 || r.Err() != api.ErrShort || r.At() != 0 {
				t.Fatalf("%d cut to %d: %d at %d, %v", x, k, got, r.At(), r.Err())
			}
		}
	}
}

// longForm is a number in n bytes, though fewer would do.
func longForm(x uint64, n int) string {
	if n == 9 {
		return "\xff" + tail(x, 8)
	}
	return tail(x|^uint64(0)<<(8*n-n+1), n)
}

// tail is the n lowest bytes of a number.
func tail(x uint64, n int) string {
	var l []byte
	for k := n - 1; k >= 0; k-- {
		l = append(l, byte(x>>(8*k)))
	}
	return string(l)
}

func TestInVarOfTooManyBytes(t *testing.T) {
	for n := 2; n <= 9; n++ {
		most := uint64(1)<<(7*(n-1)) - 1 // the greatest one that one byte fewer would do for
		for _, x := range []uint64{0, 1, most / 2, most - 1, most} {
			s := longForm(x, n)
			r := Read(s)
			if got := r.Var(); got != 0 || r.Err() != api.ErrForm || r.At() != 0 || r.Left() != n {
				t.Errorf("%d in %d bytes: %d at %d, %v", x, n, got, r.At(), r.Err())
			}
			// Bytes that are missing are told ahead of the form.
			r = Read(s[:n-1])
			if got := r.Var(); got != 0 || r.Err() != api.ErrShort {
				t.Errorf("%d in %d bytes, cut: %d, %v", x, n, got, r.Err())
			}
		}
		r := Read(longForm(most+1, n))
		if got := r.Var(); got != most+1 || r.Done() != api.OK {
			t.Errorf("%d in %d bytes: %d, %v", most+1, n, got, r.Err())
		}
	}
}

// TestOneForm goes through all texts of up to three bytes: those that are a number whole are what is written for it.
func TestOneForm(t *testing.T) {
	seen := make([]int, 1<<21)
	for n := 1; n <= 3; n++ {
		for k := range 1 << (8 * n) {
			s := tail(uint64(k), n)
			r := Read(s)
			x := r.Var()
			if r.Done() != api.OK {
				continue
			}
			seen[x]++
			var o Out
			o.Var(x)
			if o.String() != s {
				t.Fatalf("%q is %d, which is %q", s, x, o.String())
			}
		}
	}
	for x, times := range seen {
		if times != 1 {
			t.Fatalf("%d has %d forms", x, times)
		}
	}
}

func TestGreaterNumbersHaveGreaterBytes(t *testing.T) {
	last := ""
	for _, x := range numbers() {
		var o Out
		o.Var(x)
		if o.String() <= last {
			t.Fatalf("%d is %q, the one ahead %q", x, o.String(), last)
		}
		last = o.String()
	}
}

func TestInInt(t *testing.T) {
	for _, c := range []struct {
		x    uint64
		most int
		want int
		e    api.Errno
	}{
		{0, 0, 0, api.OK},
		{1, 0, 0, api.ErrForm},
		{5, 5, 5, api.OK},
		{5, 4, 0, api.ErrForm},
		{5, math.MaxInt, 5, api.OK},
		{0, -1, 0, api.ErrForm},
		{5, math.MinInt, 0, api.ErrForm},
		{math.MaxInt64, math.MaxInt, math.MaxInt, api.OK},
		{math.MaxInt64 + 1, math.MaxInt, 0, api.ErrForm},
		{math.MaxUint64, math.MaxInt, 0, api.ErrForm},
		{math.MaxUint64, -1, 0, api.ErrForm},
	} {
		s := slowVar(c.x)
		r := Read("a" + s)
		r.Raw(1)
		at := 1
		if c.e == api.OK {
			at += len(s)
		}
		if got := r.Int(c.most); got != c.want || r.Err() != c.e || r.At() != at {
			t.Errorf("%d of %d: %d at %d, %v", c.x, c.most, got, r.At(), r.Err())
		}
	}
}

func TestInIntHasVarsErrorsFirst(t *testing.T) {
	for _, most := range []int{-1, 0, 9} {
		for s, e := range map[string]api.Errno{"": api.ErrShort, "\xff": api.ErrShort, "\x80": api.ErrShort, "\x80\x05": api.ErrForm} {
			r := Read(s)
			if got := r.Int(most); got != 0 || r.Err() != e || r.At() != 0 {
				t.Errorf("%q of %d: %d at %d, %v", s, most, got, r.At(), r.Err())
			}
			r = Read(s)
			if got := r.Text(most); got != "" || r.Err() != e || r.At() != 0 {
				t.Errorf("%q of %d: %q at %d, %v", s, most, got, r.At(), r.Err())
			}
		}
	}
}

func TestInRaw(t *testing.T) {
	r := Read("abcdef")
	if r.Raw(0) != "" || r.At() != 0 || r.Raw(2) != "ab" || r.Raw(1) != "c" || r.At() != 3 || r.Left() != 3 {
		t.Error(r.At(), r.Err())
	}
	if r.Raw(3) != "def" || r.Done() != api.OK || r.Raw(0) != "" || r.Done() != api.OK {
		t.Error(r.At(), r.Err())
	}
	if r.Raw(1) != "" || r.Err() != api.ErrShort || r.At() != 6 || r.Left() != 0 {
		t.Error(r.At(), r.Err())
	}
}

func TestInText(t *testing.T) {
	long := strings.Repeat("z", 200)
	var o Out
	o.Text("", "a", long, "bc")
	r := Read(o.String())
	if r.Text(0) != "" || r.At() != 1 || r.Text(1) != "a" || r.At() != 3 || r.Text(200) != long || r.At() != 205 {
		t.Error(r.At(), r.Err())
	}
	if r.Text(math.MaxInt) != "bc" || r.Done() != api.OK {
		t.Error(r.At(), r.Err())
	}
}

// TestWrongStays: whatever is wrong first stays, with the place where that call began.
func TestWrongStays(t *testing.T) {
	for i, c := range []struct {
		s    string
		call func(r *In) bool // tells whether it answered a zero value
		e    api.Errno
	}{
		{"abc", func(r *In) bool { return r.Fixed(0) == 0 }, api.ErrArg},
		{"abc", func(r *In) bool { return r.Fixed(9) == 0 }, api.ErrArg},
		{"abc", func(r *In) bool { return r.Fixed(math.MinInt) == 0 }, api.ErrArg},
		{"", func(r *In) bool { return r.Fixed(math.MaxInt) == 0 }, api.ErrArg},
		{"abc", func(r *In) bool { return r.Fixed(4) == 0 }, api.ErrShort},
		{"", func(r *In) bool { return r.Fixed(1) == 0 }, api.ErrShort},
		{"", func(r *In) bool { return r.Var() == 0 }, api.ErrShort},
		{"\xff12345678"[:8], func(r *In) bool { return r.Var() == 0 }, api.ErrShort},
		{"\x80\x7fabc", func(r *In) bool { return r.Var() == 0 }, api.ErrForm},
		{"\x09abc", func(r *In) bool { return r.Int(8) == 0 }, api.ErrForm},
		{"\x00abc", func(r *In) bool { return r.Int(-1) == 0 }, api.ErrForm},
		{"abc", func(r *In) bool { return r.Raw(-1) == "" }, api.ErrArg},
		{"", func(r *In) bool { return r.Raw(math.MinInt) == "" }, api.ErrArg},
		{"abc", func(r *In) bool { return r.Raw(4) == "" }, api.ErrShort},
		{"abc", func(r *In) bool { return r.Raw(math.MaxInt) == "" }, api.ErrShort},
		{"\x04abc", func(r *In) bool { return r.Text(4) == "" }, api.ErrShort},
		{"\xff\x7f\xff\xff\xff\xff\xff\xff\xff", func(r *In) bool { return r.Text(math.MaxInt) == "" }, api.ErrShort},
		{"\x03abc", func(r *In) bool { return r.Text(2) == "" }, api.ErrForm},
		{"\x09abc", func(r *In) bool { return r.Text(2) == "" }, api.ErrForm},
		{"\x00abc", func(r *In) bool { return r.Text(-1) == "" }, api.ErrForm},
		{"\x00abc", func(r *In) bool { return r.Text(math.MinInt) == "" }, api.ErrForm},
	} {
		r := Read("12" + c.s)
		r.Raw(2)
		if !c.call(r) || r.Err() != c.e || r.At() != 2 || r.Left() != len(c.s) || r.Done() != c.e {
			t.Error(i, r.At(), r.Left(), r.Err(), r.Done())
		}
		if r.Fixed(1) != 0 || r.Fixed(0) != 0 || r.Var() != 0 || r.Int(9) != 0 || r.Int(-1) != 0 {
			t.Error(i, "a number behind it")
		}
		if r.Text(9) != "" || r.Text(-1) != "" || r.Raw(1) != "" || r.Raw(-1) != "" || r.Raw(99) != "" {
			t.Error(i, "a text behind it")
		}
		if r.Err() != c.e || r.At() != 2 || r.Left() != len(c.s) || r.Done() != c.e {
			t.Error(i, "did not stay", r.At(), r.Left(), r.Err(), r.Done())
		}
	}
}

func TestDone(t *testing.T) {
	if r := Read(""); r.Done() != api.OK || r.At() != 0 || r.Left() != 0 || r.Err() != api.OK {
		t.Error("a reader of nothing")
	}
	r := Read("ab")
	if r.At() != 0 || r.Left() != 2 || r.Done() != api.ErrLong || r.Err() != api.OK {
		t.Error(r.At(), r.Left(), r.Err())
	}
	if r.Raw(1) != "a" || r.Done() != api.ErrLong || r.Raw(1) != "b" || r.Done() != api.OK {
		t.Error("what Done told stayed", r.Err())
	}
}

func TestReadersAreApart(t *testing.T) {
	a, b := Read("ab"), Read("ab")
	a.Raw(3)
	if a.Err() != api.ErrShort || b.Raw(2) != "ab" || b.Done() != api.OK {
		t.Error(a.Err(), b.Err())
	}
}

func TestNilIn(t *testing.T) {
	var r *In
	if r.Fixed(1) != 0 || r.Fixed(0) != 0 || r.Var() != 0 || r.Int(1) != 0 || r.Text(1) != "" || r.Raw(1) != "" || r.Raw(-1) != "" {
		t.Error("a nil reader reads")
	}
	if r.At() != 0 || r.Left() != 0 || r.Err() != api.ErrNil || r.Done() != api.ErrNil {
		t.Error(r.At(), r.Left(), r.Err(), r.Done())
	}
}

// TestReadAgain writes many things of each kind one behind the other, and reads them again.
func TestReadAgain(t *testing.T) {
	l := numbers()
	var o Out
	for i, x := range l {
		o.Var(x)
		o.Fixed(x, i%8+1)
		o.Text(slowVar(x))
		o.Raw("|")
	}
	r := Read(o.String())
	for i, x := range l {
		n := i%8 + 1
		low := x << (64 - 8*n) >> (64 - 8*n)
		if r.Var() != x || r.Fixed(n) != low || r.Text(9) != slowVar(x) || r.Raw(1) != "|" {
			t.Fatal(x, r.At(), r.Err())
		}
	}
	if r.Done() != api.OK {
		t.Error(r.Done())
	}
}
