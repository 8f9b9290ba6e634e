package record

import (
	"slices"
	"strings"
	"testing"

	"lighter/api"
)

// The chapter's words, told another way than the program tells them: number by number and bit by bit.

// sumOf is the check sum of bytes, a bit at a time.
func sumOf(s string) uint32 {
	register := ^uint32(0)
	for _, b := range []byte(s) {
		register ^= uint32(b)
		for range 8 {
			fell := register & 1
			register >>= 1
			if fell == 1 {
				register ^= 0x82f63b78
			}
		}
	}
	return ^register
}

// sealed is bytes with their check sum behind them, the lowest byte first.
func sealed(s string) string {
	x := sumOf(s)
	return s + string([]byte{byte(x), byte(x >> 8), byte(x >> 16), byte(x >> 24)})
}

// few is a number below 2 to the 42nd in few bytes.
func few(x int) string {
	n := 1
	for x>>(7*n) > 0 {
		n++
	}
	l := make([]byte, n)
	for i := range l {
		l[i] = byte(x >> (8 * (n - 1 - i)))
	}
	for i := range n - 1 {
		l[0] |= 0x80 >> i
	}
	return string(l)
}

// readFew is the number that bytes begin with in few bytes, if it is no more than most, and what stands behind it.
func readFew(s string, most int) (int, string, bool) {
	for n := 1; n <= 6 && n <= len(s); n++ {
		x := 0
		for i := range n {
			x = x<<8 | int(s[i])
		}
		x &= 1<<(7*n) - 1
		if x <= most && few(x) == s[:n] {
			return x, s[n:], true
		}
	}
	return 0, "", false
}

// spanMay is whether a span may be.
func spanMay(s api.Span) bool { return s.At >= 0 && s.At < 65536 && s.Len >= 1 && s.Len <= 65536-s.At }

// spansMay is whether a record may have these spans, if it must have some.
func spansMay(l []api.Span) bool {
	for _, s := range l {
		if !spanMay(s) {
			return false
		}
	}
	return len(l) >= 1 && len(l) <= 64
}

// sectorsOf is how many sectors spans that may be have together.
func sectorsOf(l []api.Span) int {
	n := 0
	for _, s := range l {
		n += s.Len
	}
	return n
}

// wrong is what is wrong with a record.
func wrong(r Record) api.Errno {
	switch {
	case r.Epoch < 0 || r.Epoch >= 4294967296 || r.Number < 0 || r.Number >= 1099511627776:
		return api.ErrRange
	case r.Kind < 1 || r.Kind > 3:
		return api.ErrKind
	case r.Kind == 1 && (r.Text != "" || !spansMay(r.Spans) || sectorsOf(r.Spans) > 512):
		return api.ErrArg
	case r.Kind == 2 && (r.Text != "" || r.Data != "" || !spansMay(r.Spans)):
		return api.ErrArg
	case r.Kind == 3 && (len(r.Text) > 512 || r.Data != "" || len(r.Spans) > 0):
		return api.ErrArg
	case r.Kind == 1 && len(r.Data) != 64*sectorsOf(r.Spans):
		return api.ErrAlign
	}
	return api.OK
}

// body is what stands in a head between how many sectors it has and the bytes 0, of a record that may be.
func body(r Record) string {
	s := few(r.Epoch) + few(r.Number) + few(r.Kind)
	if r.Kind == 3 {
		return s + few(len(r.Text)) + r.Text
	}
	s += few(len(r.Spans))
	for _, x := range r.Spans {
		s += few(x.At) + few(x.Len)
	}
	if r.Kind == 1 {
		x := sumOf(r.Data)
		s += string([]byte{byte(x >> 24), byte(x >> 16), byte(x >> 8), byte(x)})
	}
	return s
}

// headWith is the head of n sectors that has these bytes behind their number.
func headWith(n int, body string) string {
	s := "LR" + string([]byte{byte(n >> 8), byte(n)}) + body
	return sealed(s + strings.Repeat("\x00", 64*n-4-len(s)))
}

// headOf is the head of a record that may be: of as few sectors as it has room in.
func headOf(r Record) string {
	b := body(r)
	n := 1
	for 64*n < 2+2+len(b)+4 {
		n++
	}
	return headWith(n, b)
}

// answer is what Head or Decode answers: how many sectors the head has and the data, or the record.
type answer struct {
	r    Record
	n, k int
	e    api.Errno
}

// parsed is the record (but for its data) of which this is the body, with the bytes 0 behind it, and the data's check sum.
func parsed(s string) (r Record, sum uint32, ok bool) {
	var l [3]int
	for i, most := range []int{4294967295, 1099511627775, 3} {
		if l[i], s, ok = readFew(s, most); !ok {
			return
		}
	}
	r = Record{Epoch: l[0], Number: l[1], Kind: l[2]}
	n := 0
	switch r.Kind {
	case 1, 2:
		if n, s, ok = readFew(s, 64); !ok {
			return
		}
		for range n {
			var x api.Span
			if x.At, s, ok = readFew(s, 65536); !ok {
				return
			}
			if x.Len, s, ok = readFew(s, 65536); !ok {
				return
			}
			r.Spans = append(r.Spans, x)
		}
		if r.Kind == 1 {
			if len(s) < 4 {
				return r, 0, false
			}
			sum = uint32(s[0])<<24 | uint32(s[1])<<16 | uint32(s[2])<<8 | uint32(s[3])
			s = s[4:]
		}
		ok = spansMay(r.Spans) && (r.Kind == 2 || sectorsOf(r.Spans) <= 512)
	case 3:
		if n, s, ok = readFew(s, 512); !ok || n > len(s) {
			return r, 0, false
		}
		r.Text, s = s[:n], s[n:]
	default:
		return r, 0, false
	}
	return r, sum, ok && len(s) < 64 && strings.Trim(s, "\x00") == ""
}

// headed is what Head answers, and the check sum that the head tells of the data.
func headed(s string) (answer, uint32) {
	if len(s) < 64 {
		return answer{e: api.ErrShort}, 0
	}
	n := int(s[2])*256 + int(s[3])
	switch {
	case s[:2] != "LR" || n == 0 || n > 40:
		return answer{e: api.ErrForm}, 0
	case len(s) < 64*n:
		return answer{e: api.ErrShort}, 0
	case sealed(s[:64*n-4]) != s[:64*n]:
		return answer{e: api.ErrSum}, 0
	}
	r, sum, ok := parsed(s[4 : 64*n-4])
	if !ok {
		return answer{e: api.ErrForm}, 0
	}
	k := 0
	if r.Kind == 1 {
		k = sectorsOf(r.Spans)
	}
	return answer{r, n, k, api.OK}, sum
}

// decoded is what Decode answers.
func decoded(s string) answer {
	h, sum := headed(s)
	if h.e != api.OK {
		return h
	}
	all := h.n + h.k
	if len(s) < 64*all {
		return answer{e: api.ErrShort}
	}
	h.r.Data = s[64*h.n : 64*all]
	if h.k > 0 && sumOf(h.r.Data) != sum {
		return answer{e: api.ErrSum}
	}
	return answer{h.r, all, 0, api.OK}
}

// same tells whether two records are the same one.
func same(a, b Record) bool {
	return a.Epoch == b.Epoch && a.Number == b.Number && a.Kind == b.Kind && slices.Equal(a.Spans, b.Spans) && a.Data == b.Data && a.Text == b.Text
}

func (a answer) is(b answer) bool { return same(a.r, b.r) && a.n == b.n && a.k == b.k && a.e == b.e }

// gotHead is what Head answers; so is gotDecode of Decode.
func gotHead(s string) answer {
	r, n, k, e := Head(s)
	return answer{r, n, k, e}
}

func gotDecode(s string) answer {
	r, n, e := Decode(s)
	return answer{r, n, 0, e}
}

// checkBytes holds what is read of bytes against the model; it answers how Decode ended.
func checkBytes(t *testing.T, s string) api.Errno {
	t.Helper()
	if want, _ := headed(s); !gotHead(s).is(want) {
		t.Errorf("Head of %q: %v; want %v", short(s), gotHead(s), want)
	}
	want := decoded(s)
	if got := gotDecode(s); !got.is(want) {
		t.Errorf("Decode of %q: %v; want %v", short(s), got, want)
	}
	return want.e
}

// checkRecord holds what is told of a record against the model.
func checkRecord(t *testing.T, r Record) {
	t.Helper()
	want, bytes := wrong(r), ""
	if want == api.OK {
		bytes = headOf(r) + r.Data
	}
	if got := Check(r); got != want {
		t.Errorf("Check of %s: %v; want %v", brief(r), got, want)
	}
	if got := Size(r); got != len(bytes)/64 {
		t.Errorf("Size of %s: %d; want %d", brief(r), got, len(bytes)/64)
	}
	if got, e := Encode(r); got != bytes || e != want {
		t.Errorf("Encode of %s: %q, %v; want %q, %v", brief(r), short(got), e, short(bytes), want)
	}
	if got, want := Parts(r), partsOf(r); !slices.Equal(got, want) {
		t.Errorf("Parts of %s: %d of them; want %d", brief(r), len(got), len(want))
	}
}

// partsOf is what Parts answers: the data go to the spans sector by sector.
func partsOf(r Record) []string {
	if wrong(r) != api.OK || r.Kind != 1 {
		return nil
	}
	l := make([]string, len(r.Spans))
	at := 0
	for i, s := range r.Spans {
		for range s.Len {
			l[i] += r.Data[64*at : 64*at+64]
			at++
		}
	}
	return l
}

// rolls is a row of numbers that looks like chance, and is the same each time.
type rolls uint64

func (r *rolls) below(n int) int {
	*r = *r*6364136223846793005 + 1442695040888963407
	return int(uint64(*r)>>33) % n
}
