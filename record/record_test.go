package record

import (
	"fmt"
	"math"
	"slices"
	"strings"
	"testing"

	"lighter/api"
)

// short is the beginning of bytes, to be told.
func short(s string) string { return s[:min(len(s), 80)] }

// brief is a record, to be told.
func brief(r Record) string {
	return fmt.Sprintf("%d %d %d, %d spans %v, %d bytes of data, %d of text", r.Epoch, r.Number, r.Kind, len(r.Spans), r.Spans[:min(3, len(r.Spans))], len(r.Data), len(r.Text))
}

func sp(at, n int) api.Span { return api.Span{At: at, Len: n} }

// spread is n spans of a sector each, three sectors apart.
func spread(n int) []api.Span {
	var l []api.Span
	for i := range n {
		l = append(l, sp(3*i, 1))
	}
	return l
}

// data is so many sectors, no two of which are the same.
func data(n int) string {
	l := make([]byte, 64*n)
	for i := range l {
		l[i] = byte(i>>6) ^ byte(i>>14)*37 ^ byte(i)*73
	}
	return string(l)
}

// write is a Write with just its data; so are trim and note of the other kinds.
func write(epoch, number int, l ...api.Span) Record {
	return Record{Epoch: epoch, Number: number, Kind: Write, Spans: l, Data: data(sectorsOf(l))}
}

func trim(epoch, number int, l ...api.Span) Record {
	return Record{Epoch: epoch, Number: number, Kind: Trim, Spans: l}
}

func note(epoch, number int, text string) Record {
	return Record{Epoch: epoch, Number: number, Kind: Note, Text: text}
}

// some is records of all kinds that may be, of the least and the greatest numbers, sizes and counts among them.
func some() []Record {
	lastEpoch, lastNumber := 1<<32-1, api.MaxSeq-1
	return []Record{
		note(1, 2, "hi"), note(0, 0, ""), note(lastEpoch, lastNumber, strings.Repeat("t", 512)), note(5, 6, "\x00\x00"), note(127, 128, strings.Repeat("\x00", 127)), note(3, 4, "\xff\xfeL\x00R\n"),
		trim(1, 2, sp(0, 1)), trim(0, 0, sp(0, 65536)), trim(lastEpoch, lastNumber, sp(65535, 1)), trim(1, 300, sp(9, 2), sp(0, 65536), sp(9, 2), sp(4, 9)), trim(16383, 16384, spread(64)...), trim(1, 1, slices.Repeat([]api.Span{sp(0, 65536)}, 64)...),
		write(1, 2, sp(7, 1)), write(0, 0, sp(65535, 1)), write(lastEpoch, lastNumber, sp(65024, 512)), write(1, 300, sp(5, 1), sp(200, 2)), write(2, 3, sp(9, 2), sp(3, 4), sp(9, 2), sp(10, 3)), write(4, 5, spread(64)...), write(6, 7, slices.Repeat([]api.Span{sp(65528, 8)}, 64)...),
	}
}

// P10.1: the chapter's examples.
func TestExamples(t *testing.T) {
	s, e := Encode(note(1, 2, "hi"))
	if e != api.OK || len(s) != 64 || s[:60] != "LR\x00\x01\x01\x02\x03\x02hi"+strings.Repeat("\x00", 50) || s[60:] != sealed(s[:60])[60:] {
		t.Errorf("%q, %v", s, e)
	}
	if n := Size(write(1, 2, sp(0, 1))); n != 2 {
		t.Error(n)
	}
	if Write != 1 || Trim != 2 || Note != 3 {
		t.Error(Write, Trim, Note)
	}
}

// P10.1: records that may be, and their bytes to the last one.
func TestRecordsThatMayBe(t *testing.T) {
	for _, r := range some() {
		if Check(r) != api.OK || Size(r) < 1 {
			t.Errorf("%s: %v, %d sectors", brief(r), Check(r), Size(r))
		}
		checkRecord(t, r)
	}
}

// P10.1: what is wrong with a record, at each edge on its own.
func TestWrongRecords(t *testing.T) {
	withData := func(r Record, s string) Record { r.Data = s; return r }
	withText := func(r Record, s string) Record { r.Text = s; return r }
	withSpans := func(r Record, l ...api.Span) Record { r.Spans = l; return r }
	one := write(1, 2, sp(7, 1))
	for i, c := range []struct {
		r Record
		e api.Errno
	}{
		{note(-1, 2, ""), api.ErrRange}, {note(1<<32, 2, ""), api.ErrRange}, {note(math.MinInt, 2, ""), api.ErrRange}, {note(math.MaxInt, 2, ""), api.ErrRange}, {note(1<<32-1, 2, ""), api.OK},
		{note(1, -1, ""), api.ErrRange}, {note(1, api.MaxSeq, ""), api.ErrRange}, {note(1, math.MinInt, ""), api.ErrRange}, {note(1, math.MaxInt, ""), api.ErrRange}, {note(1, api.MaxSeq-1, ""), api.OK},
		{Record{}, api.ErrKind}, {Record{Kind: 4}, api.ErrKind}, {Record{Kind: -1}, api.ErrKind}, {Record{Kind: math.MaxInt}, api.ErrKind}, {Record{Kind: math.MinInt}, api.ErrKind}, {Record{Kind: 1 << 32}, api.ErrKind}, {Record{Kind: 257}, api.ErrKind},
		{withText(one, "x"), api.ErrArg}, {withSpans(one), api.ErrArg}, {withSpans(one, sp(7, 0)), api.ErrArg}, {withSpans(one, sp(-1, 1)), api.ErrArg}, {withSpans(one, sp(65536, 1)), api.ErrArg}, {withSpans(one, sp(65535, 2)), api.ErrArg}, {withSpans(one, sp(math.MaxInt, 1)), api.ErrArg}, {withSpans(one, sp(2, math.MaxInt)), api.ErrArg}, {withSpans(one, sp(math.MinInt, math.MinInt)), api.ErrArg},
		{write(1, 2, spread(65)...), api.ErrArg}, {write(1, 2, spread(64)...), api.OK}, {write(1, 2, sp(0, 513)), api.ErrArg}, {write(1, 2, sp(0, 512)), api.OK}, {write(1, 2, sp(0, 512), sp(600, 1)), api.ErrArg}, {write(1, 2, sp(0, 511), sp(0, 1)), api.OK}, {withSpans(one, slices.Repeat([]api.Span{sp(0, 65536)}, 64)...), api.ErrArg}, {withData(write(1, 2, sp(5, 1), sp(6, 0)), data(1)), api.ErrArg},
		{withData(one, ""), api.ErrAlign}, {withData(one, data(1)[1:]), api.ErrAlign}, {withData(one, data(1)+"x"), api.ErrAlign}, {withData(one, data(2)), api.ErrAlign}, {withData(write(1, 2, sp(0, 512)), data(511)), api.ErrAlign}, {withData(one, data(600)), api.ErrAlign},
		{withText(trim(1, 2, sp(7, 1)), "x"), api.ErrArg}, {withData(trim(1, 2, sp(7, 1)), "x"), api.ErrArg}, {withData(trim(1, 2, sp(7, 1)), data(1)), api.ErrArg}, {trim(1, 2), api.ErrArg}, {trim(1, 2, spread(65)...), api.ErrArg}, {trim(1, 2, sp(7, 1), sp(0, 65537)), api.ErrArg}, {trim(1, 2, sp(7, 1), sp(3, 0)), api.ErrArg}, {trim(1, 2, sp(7, -1)), api.ErrArg}, {trim(1, 2, sp(0, 513)), api.OK},
		{note(1, 2, strings.Repeat("x", 512)), api.OK}, {note(1, 2, strings.Repeat("x", 513)), api.ErrArg}, {withData(note(1, 2, "x"), "x"), api.ErrArg}, {withData(note(1, 2, "x"), data(1)), api.ErrArg}, {withSpans(note(1, 2, "x"), sp(7, 1)), api.ErrArg}, {withSpans(note(1, 2, "x"), sp(7, 0)), api.ErrArg}, {withSpans(note(1, 2, "x"), []api.Span{}...), api.OK},
	} {
		if e := Check(c.r); e != c.e {
			t.Errorf("%d: %s: %v; want %v", i, brief(c.r), e, c.e)
		}
		checkRecord(t, c.r)
	}
}

// P10.1, R1: of several errors the one that is named first is answered; the fields of all kinds are tried with one another.
func TestOrderOfErrors(t *testing.T) {
	times := map[api.Errno]int{}
	for _, epoch := range []int{-1, 0, 1<<32 - 1, 1 << 32} {
		for _, number := range []int{-1, 0, api.MaxSeq - 1, api.MaxSeq} {
			for kind := -1; kind <= 5; kind++ {
				for _, l := range [][]api.Span{nil, {sp(4, 1)}, {sp(4, 1), sp(4, 0)}, {sp(4, 3), sp(2, 2)}, {sp(0, 513)}, spread(64), spread(65)} {
					for _, s := range []string{"", "x", data(1), data(5), data(64), data(65), data(513)} {
						for _, text := range []string{"", "x", strings.Repeat("x", 512), strings.Repeat("x", 513)} {
							r := Record{epoch, number, kind, l, s, text}
							checkRecord(t, r)
							times[wrong(r)]++
						}
					}
				}
			}
		}
	}
	for _, e := range []api.Errno{api.OK, api.ErrRange, api.ErrKind, api.ErrArg, api.ErrAlign} {
		if times[e] < 16 {
			t.Errorf("%v comes only %d times", e, times[e])
		}
	}
}

// P10.1: a head has as few bytes 0 as there must be: texts of all lengths, numbers of all lengths, and all counts of spans.
func TestHeadsOfAllLengths(t *testing.T) {
	seen := map[int]int{}
	for n := range 514 {
		checkRecord(t, note(1, 2, strings.Repeat("\x01", n)))
		seen[Size(note(1, 2, strings.Repeat("\x01", n)))]++
	}
	if seen[1] != 53 || seen[2] != 64 || seen[0] != 1 { // 4 + 1 + 1 + 1 + 1 + 52 + 4 is 64
		t.Error(seen)
	}
	for n := range 65 {
		checkRecord(t, trim(1, 2, spread(n)...))
		checkRecord(t, write(1, 2, spread(n)...))
		checkRecord(t, trim(1<<32-1, api.MaxSeq-1, slices.Repeat([]api.Span{sp(65535, 1)}, n)...))
	}
	for k := range 41 {
		for d := -1; d <= 1; d++ {
			checkRecord(t, note(1<<min(k, 32)+d, 1<<k+d, strings.Repeat("n", k)))
			checkRecord(t, trim(3, 4, sp(1<<min(k, 16)+d, 1), sp(0, 1<<min(k, 16)+d)))
		}
	}
}

// P10.2: Head needs no more than the head; Decode needs all, and nothing behind it counts.
func TestHeadAndDecode(t *testing.T) {
	for _, r := range some() {
		s, _ := Encode(r)
		n, k := len(headOf(r))/64, len(r.Data)/64
		bare := r
		bare.Data = ""
		for _, behind := range []string{"", "x", "LR", data(3), s} {
			if got, want := gotHead(s+behind), (answer{bare, n, k, api.OK}); !got.is(want) {
				t.Errorf("Head of %s: %v; want %v", brief(r), got, want)
			}
			if got := gotHead(s[:64*n] + behind); !got.is(answer{bare, n, k, api.OK}) {
				t.Errorf("Head of %s alone: %v", brief(r), got)
			}
			if got, want := gotDecode(s+behind), (answer{r, n + k, 0, api.OK}); !got.is(want) {
				t.Errorf("Decode of %s: %v; want %v", brief(r), got, want)
			}
		}
	}
}

// P10.2, P10.4: of a record whose end is missing nothing is read.
func TestMissingEnds(t *testing.T) {
	for _, r := range some() {
		s, _ := Encode(r)
		n := len(headOf(r))
		for i := range s {
			if i > 200 && i < len(s)-200 && i%61 > 3 && (i < n-70 || i > n+70) {
				continue
			}
			if got := gotDecode(s[:i]); !got.is(answer{e: api.ErrShort}) {
				t.Errorf("Decode of %d bytes of %s: %v", i, brief(r), got)
			}
			if got := gotHead(s[:i]); i < n && !got.is(answer{e: api.ErrShort}) || i >= n && got.e != api.OK {
				t.Errorf("Head of %d bytes of %s: %v", i, brief(r), got)
			}
		}
	}
}

// P10.2, P10.4: a byte of a record turned in any way, it is none.
func TestTurnedBytes(t *testing.T) {
	times := map[api.Errno]int{}
	for _, r := range []Record{note(1, 2, "hi"), trim(1, 300, sp(5, 1), sp(200, 2)), write(1, 2, sp(7, 1)), note(3, 4, strings.Repeat("t", 70)), write(5, 6, sp(9, 2), sp(9, 1))} {
		s, _ := Encode(r)
		for i := range s {
			for x := range 256 {
				if x == int(s[i]) {
					continue
				}
				turned := s[:i] + string([]byte{byte(x)}) + s[i+1:]
				e := checkBytes(t, turned)
				if e == api.OK {
					t.Errorf("%s is one with the byte %d turned to %d", brief(r), i, x)
				}
				times[e]++
			}
		}
	}
	for _, e := range []api.Errno{api.ErrShort, api.ErrForm, api.ErrSum} {
		if times[e] < 100 {
			t.Errorf("%v comes only %d times", e, times[e])
		}
	}
}

// P10.2: heads whose check sum is right, and that no record has: each byte is turned in turn, and the head sealed again.
func TestHeadsOfNoRecord(t *testing.T) {
	times := map[api.Errno]int{}
	for _, r := range []Record{note(1, 2, "hi"), note(300, 70000, "\x00"), note(1<<32-1, api.MaxSeq-1, strings.Repeat("t", 200)), trim(1, 2, sp(0, 65536)), trim(1, 300, sp(5, 1), sp(200, 2)), write(1, 2, sp(7, 1)), write(1, 2, sp(300, 2), sp(65535, 1))} {
		s, _ := Encode(r)
		n := len(headOf(r))
		for i := range n - 4 {
			for x := range 256 {
				turned := s[:i] + string([]byte{byte(x)}) + s[i+1:n-4]
				times[checkBytes(t, sealed(turned)+s[n:]+data(3))]++
			}
		}
	}
	for _, e := range []api.Errno{api.OK, api.ErrShort, api.ErrForm, api.ErrSum} {
		if times[e] < 100 {
			t.Errorf("%v comes only %d times", e, times[e])
		}
	}
}

// P10.2: how many sectors a head has: none, one too few or too many, 40, 41, and more than a byte tells.
func TestSectorsOfHeads(t *testing.T) {
	for _, r := range some() {
		right := len(headOf(r)) / 64
		b := body(r)
		for _, n := range []int{0, 1, 2, 3, 7, 8, 9, 10, 39, 40, 41, 42, 255, 256, 257, 256 + right, 65535} {
			if 64*n < 8+len(b) {
				continue
			}
			want := api.ErrForm
			if n == right {
				want = api.OK
			}
			s := headWith(n, b) + r.Data
			if e := checkBytes(t, s); e != want {
				t.Errorf("%s in a head of %d sectors: %v; want %v", brief(r), n, e, want)
			}
			if n > 1 && n <= 40 {
				if e := checkBytes(t, s[:64*n-1]); e != api.ErrShort {
					t.Errorf("%s in a head of %d sectors, a byte of which is missing: %v", brief(r), n, e)
				}
			}
		}
	}
	for _, n := range []int{0, 41, 65535} { // ahead of what is missing, and of the check sum
		if got := gotHead("LR" + string([]byte{byte(n >> 8), byte(n)}) + data(1)[4:]); !got.is(answer{e: api.ErrForm}) {
			t.Error(n, got)
		}
	}
}

// P10.2: bodies that no record has, told one by one; each error's order against the others.
func TestBodiesOfNoRecord(t *testing.T) {
	sum := func(s string) string {
		return string([]byte{byte(sumOf(s) >> 24), byte(sumOf(s) >> 16), byte(sumOf(s) >> 8), byte(sumOf(s))})
	}
	for i, c := range []struct {
		body string
		e    api.Errno
	}{
		{"\x01\x02\x03\x02hi", api.OK}, {"\x01\x02\x03\x00", api.OK}, {"\x01\x02\x03\x02hi\x00", api.OK}, {"\x01\x02\x03\x02hi\x01", api.ErrForm}, {"\x01\x02\x03\x00hi", api.ErrForm}, {"\x01\x02\x03\x80\x02hi", api.ErrForm}, {"\x80\x01\x02\x03\x00", api.ErrForm}, {"\x01\x80\x02\x03\x00", api.ErrForm}, {"\x01\x02\x80\x03\x00", api.ErrForm},
		{"", api.ErrForm}, {"\x01\x02\x00\x00", api.ErrForm}, {"\x01\x02\x04\x00", api.ErrForm}, {"\x01\x02\xff\xff\xff\xff\xff\xff\xff\xff\xff", api.ErrForm}, {"\xf1\x00\x00\x00\x00\x02\x03", api.ErrForm}, {"\xf0\xff\xff\xff\xff\x02\x03", api.OK}, {"\x01\xfd\x00\x00\x00\x00\x00\x03", api.ErrForm}, {"\x01\xf8\xff\xff\xff\xff\xff\x03", api.OK}, {"\x01\xfa\xff\xff\xff\xff\xff\x03", api.ErrForm}, {"\x01\xf9\x00\x00\x00\x00\x00\x03", api.ErrForm}, {few(1) + few(api.MaxSeq-1) + few(3), api.OK}, {few(1) + few(api.MaxSeq) + few(3), api.ErrForm}, {few(1<<32) + few(2) + few(3), api.ErrForm},
		{"\x01\x02\x03\x34" + strings.Repeat("t", 52), api.OK}, {"\x01\x02\x03\x35" + strings.Repeat("t", 52), api.ErrForm}, {"\x01\x02\x03\xff\xff\xff\xff\xff\xff\xff\xff\xff", api.ErrForm},
		{"\x01\x02\x02\x00", api.ErrForm}, {"\x01\x02\x02\x01\x05\x01", api.OK}, {"\x01\x02\x02\x01\x05\x00", api.ErrForm}, {"\x01\x02\x02\x02\x05\x01", api.ErrForm}, {"\x01\x02\x02\x02\x05\x01\x00\x01", api.OK}, {"\x01\x02\x02\x01" + few(65535) + "\x01", api.OK}, {"\x01\x02\x02\x01" + few(65536) + "\x01", api.ErrForm}, {"\x01\x02\x02\x01" + few(65535) + "\x02", api.ErrForm}, {"\x01\x02\x02\x01\x00" + few(65536), api.OK}, {"\x01\x02\x02\x01\x00" + few(65537), api.ErrForm}, {"\x01\x02\x02\x01\x00\xff\xff\xff\xff\xff\xff\xff\xff\xff", api.ErrForm}, {"\x01\x02\x02\x01\xff\xff\xff\xff\xff\xff\xff\xff\xff\x01", api.ErrForm}, {"\x01\x02\x02\x19" + strings.Repeat("\x05\x01", 25), api.OK}, {"\x01\x02\x02\x1b" + strings.Repeat("\x05\x01", 26), api.ErrForm}, {"\x01\x02\x02\x80\x01\x05\x01", api.ErrForm},
		{"\x01\x02\x01\x00" + sum(""), api.ErrForm}, {"\x01\x02\x01\x01\x05\x03" + sum(data(3)), api.OK}, {"\x01\x02\x01\x02\x05\x01\x05\x02" + sum(data(3)), api.OK}, {"\x01\x02\x01\x01\x05\x03" + sum(data(2)), api.ErrSum}, {"\x01\x02\x01\x01\x05\x02" + sum(data(2)), api.OK}, {"\x01\x02\x01\x01\x05\x04" + sum(data(3)), api.ErrShort}, {"\x01\x02\x01\x01\x05\x00" + sum(""), api.ErrForm}, {"\x01\x02\x01\x01\x00" + few(513) + sum(data(3)), api.ErrForm}, {"\x01\x02\x01\x01\x00" + few(512) + sum(data(3)), api.ErrShort}, {"\x01\x02\x01\x02\x00" + few(512) + "\x00\x01" + sum(data(3)), api.ErrForm}, {"\x01\x02\x01\x01" + few(65535) + "\x02" + sum(data(2)), api.ErrForm}, {"\x01\x02\x01\x01\x05\x03" + sum(data(3)) + "\x01", api.ErrForm},
	} {
		if e := checkBytes(t, headWith(1, c.body)+data(3)); e != c.e {
			t.Errorf("%d: %q: %v; want %v", i, c.body, e, c.e)
		}
	}
	if e := checkBytes(t, headWith(2, "\x01\x02\x01\x1b"+strings.Repeat("\x05\x01", 26))); e != api.ErrForm {
		t.Error(e)
	}
	if e := checkBytes(t, headWith(3, "\x01\x02\x02\x41"+strings.Repeat("\x05\x01", 65))); e != api.ErrForm { // 65 spans
		t.Error(e)
	}
	if e := checkBytes(t, headWith(9, "\x01\x02\x03"+few(513)+strings.Repeat("t", 513))); e != api.ErrForm {
		t.Error(e)
	}
	if e := checkBytes(t, headWith(2, "\x01\x02\x03"+few(53)+strings.Repeat("t", 53))); e != api.OK { // the last byte 0 has no room in one sector
		t.Error(e)
	}
}

// P10.2: bytes of no kind end with an error: none, bytes 0, all kinds of others.
func TestOtherBytes(t *testing.T) {
	for n := range 200 {
		for _, x := range []string{"\x00", "L", "R", "LR", "LR\x00\x01", "\xff", "LR\x00\x02\x01\x01\x03\x00"} {
			if e := checkBytes(t, strings.Repeat(x, n)); e == api.OK {
				t.Errorf("%d times %q is a record", n, x)
			}
		}
	}
	for _, begin := range []string{"RL", "lR", "Lr", "L\x00", "\x00R"} {
		if e := checkBytes(t, sealed(begin+headOf(note(1, 2, "hi"))[2:60])); e != api.ErrForm {
			t.Errorf("%q: %v", begin, e)
		}
	}
}

// P10.3: the parts of a Write stand in the order of its spans, one behind the other; all other records have none.
func TestParts(t *testing.T) {
	r := write(1, 2, sp(9, 2), sp(3, 1), sp(9, 3), sp(10, 1))
	if got, want := Parts(r), []string{r.Data[:128], r.Data[128:192], r.Data[192:384], r.Data[384:]}; !slices.Equal(got, want) {
		t.Errorf("%q", got)
	}
	for _, r := range some() {
		got := Parts(r)
		if strings.Join(got, "") != r.Data || r.Kind == Write && len(got) != len(r.Spans) || r.Kind != Write && len(got) > 0 {
			t.Errorf("Parts of %s: %d of them", brief(r), len(got))
		}
	}
	wrong := write(1, 2, sp(9, 2))
	wrong.Data += "x"
	other := write(1, 2, sp(9, 2))
	other.Kind = Trim
	far := write(1, 2, sp(0, 1))
	far.Spans = []api.Span{sp(0, math.MaxInt), sp(0, math.MaxInt)}
	for _, r := range []Record{wrong, other, far, {}, write(-1, 2, sp(0, 1)), write(1, 2)} {
		if got := Parts(r); len(got) > 0 {
			t.Errorf("Parts of %s: %d of them", brief(r), len(got))
		}
	}
}

// number is one of few or many bits, from 0 on and below end.
func number(roll *rolls, end int) int {
	return (roll.below(1<<30)<<20 ^ roll.below(1<<20)) >> roll.below(51) % end
}

// anyRecord is a record that may be.
func anyRecord(roll *rolls) Record {
	r := Record{Epoch: number(roll, 1<<32), Number: number(roll, api.MaxSeq), Kind: 1 + roll.below(3)}
	if r.Kind == Note {
		r.Text = data(9)[roll.below(60):][:roll.below(513)]
		return r
	}
	for range 1 + roll.below(64) {
		n := 1 + roll.below(8)
		if r.Kind == Trim {
			n = 1 + number(roll, 65536)
		}
		r.Spans = append(r.Spans, sp(number(roll, 65537-n), n))
	}
	if r.Kind == Write {
		r.Data = data(600)[roll.below(999):][:64*sectorsOf(r.Spans)]
	}
	return r
}

// P10.4: what was encoded is decoded, whatever stands behind it; what is decoded is encoded as the same sectors; a row of records is read one by one.
func TestThereAndBack(t *testing.T) {
	roll := rolls(1)
	for range 60 {
		var l []Record
		all := ""
		for range 1 + roll.below(9) {
			r := anyRecord(&roll)
			checkRecord(t, r)
			s, _ := Encode(r)
			l, all = append(l, r), all+s
		}
		at := 0
		for _, r := range l {
			got, n, e := Decode(all[at:])
			if !same(got, r) || n != Size(r) || e != api.OK {
				t.Fatalf("%s: %s, %d sectors, %v", brief(r), brief(got), n, e)
			}
			if s, e := Encode(got); s != all[at:at+64*n] || e != api.OK {
				t.Fatalf("%s is encoded otherwise: %v", brief(got), e)
			}
			at += 64 * n
		}
		if at != len(all) {
			t.Fatal(at, len(all))
		}
	}
}

// P10.4: of any records, a byte turned or an end missing, they are none.
func TestSpoilt(t *testing.T) {
	roll := rolls(2)
	for range 400 {
		r := anyRecord(&roll)
		s, _ := Encode(r)
		i := roll.below(len(s))
		if roll.below(2) == 0 {
			i = roll.below(len(headOf(r)))
		}
		turned := s[:i] + string([]byte{s[i] ^ byte(1+roll.below(255))}) + s[i+1:]
		for _, x := range []string{turned, turned + data(9), s[:i]} {
			if e := checkBytes(t, x); e == api.OK {
				t.Errorf("%s, spoilt at %d, is a record", brief(r), i)
			}
		}
	}
}

// P10.2, R2: what is handed in is not turned, nor what stands behind its length; what is answered is the caller's.
func TestMemory(t *testing.T) {
	room := spread(9)
	r := Record{Epoch: 1, Number: 2, Kind: Write, Spans: room[:4], Data: data(4)}
	s, _ := Encode(r)
	for range 3 {
		again, e := Encode(r)
		one, n, _, _ := Head(s)
		two, _, _ := Decode(s)
		parts := Parts(r)
		if again != s || e != api.OK || n != 1 || Check(r) != api.OK || Size(r) != 5 || !slices.Equal(one.Spans, spread(4)) || !slices.Equal(two.Spans, spread(4)) || !slices.Equal(parts, partsOf(r)) {
			t.Fatal(brief(one), brief(two), len(parts))
		}
		clear(one.Spans[:cap(one.Spans)])
		if !slices.Equal(two.Spans, spread(4)) || !slices.Equal(room, spread(9)) {
			t.Fatal(two.Spans, room)
		}
		clear(two.Spans[:cap(two.Spans)])
		clear(parts[:cap(parts)])
	}
	if !slices.Equal(room, spread(9)) {
		t.Error(room)
	}
}
