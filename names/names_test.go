package names

import (
	"fmt"
	"math"
	"regexp"
	"slices"
	"strings"
	"testing"

	"lighter/api"
)

// The words of the chapter, told another way than the program tells them.
var (
	volumeWords = regexp.MustCompile(`\A[a-z0-9-]{1,32}\z`)
	nameWords   = regexp.MustCompile(`\A[a-z0-9-]{1,32}/[dcme]/[0-9a-f]{10}\z`)
	letterWords = map[int]string{1: "d", 2: "c", 3: "m", 4: "e"}
)

// volumes is names of volumes: short and long, and such as have one another, letters of kinds, or digits, in them.
func volumes() []string {
	return []string{"a", "z", "0", "9", "-", "--", "vol", "vo", "vol-", "volx", "d", "c", "m", "e", "d-d",
		"0000000000", "00000000ff", "az09-", strings.Repeat("v", 31), strings.Repeat("v", 32), strings.Repeat("-", 32)}
}

// noVolumes is texts that are no volume's name.
func noVolumes() []string {
	return []string{"", " ", "V", "Vol", "voL", "vo_l", "vo.l", "vo/l", "/", "vol/", "/vol", "vol ", " vol", "vol\n", "\x00", "v\x00l",
		"\xff", "v\x80", "é", "v\u0430l", "`", "{", ":", strings.Repeat("v", 33), strings.Repeat("v", 64), strings.Repeat("é", 16), strings.Repeat("V", 1000)}
}

// numbers is numbers of objects, rising: small ones, and those about each power of two.
func numbers() []int {
	l := []int{0}
	for k := range 40 {
		for d := -1; d <= 1; d++ {
			l = append(l, 1<<k+d, 0xa5c3f00f96>>k)
		}
	}
	l = append(l, api.MaxSeq-2, api.MaxSeq-1)
	slices.Sort(l)
	return slices.Compact(l)
}

// noKinds is numbers that are no kind's.
func noKinds() []int {
	return []int{0, 5, 6, -1, -4, 'd', 'c', 'm', 'e', 1<<8 + 1, 1<<32 + 1, math.MinInt, math.MinInt + 1, math.MaxInt}
}

// textOf is a name's text, which must be one.
func textOf(t *testing.T, n Name) string {
	t.Helper()
	s, e := Print(n)
	if e != api.OK {
		t.Fatal(n, e)
	}
	return s
}

// checkParse holds Parse against the chapter's words.
func checkParse(t *testing.T, s string) {
	t.Helper()
	n, e := Parse(s)
	if !nameWords.MatchString(s) {
		if e != api.ErrForm || n != (Name{}) {
			t.Errorf("%q is no name, but is %v, %v", s, n, e)
		}
		return
	}
	if e != api.OK {
		t.Errorf("%q is a name, but %v", s, e)
		return
	}
	if back := fmt.Sprintf("%s/%s/%010x", n.Volume, letterWords[n.Kind], n.Seq); back != s {
		t.Errorf("%q is %v, whose text is %q", s, n, back)
	}
}

// Ways, and the document's table of kinds: other layers and stores that last lean on these numbers.
func TestKinds(t *testing.T) {
	if Data != 1 || Check != 2 || Manifest != 3 || Epoch != 4 {
		t.Error(Data, Check, Manifest, Epoch)
	}
}

// P6.1: a volume's name is one to 32 of the bytes a to z, 0 to 9 and -.
func TestVolume(t *testing.T) {
	for _, s := range volumes() {
		if e := Volume(s); e != api.OK {
			t.Errorf("%q: %v", s, e)
		}
	}
	for _, s := range noVolumes() {
		if e := Volume(s); e != api.ErrArg {
			t.Errorf("%q: %v", s, e)
		}
	}
}

// P6.1: each byte at each place of names of each length.
func TestVolumeByBytes(t *testing.T) {
	for n := range 70 {
		for at := range max(n, 1) {
			for c := range 256 {
				s := []byte(strings.Repeat("q", n))
				if at < n {
					s[at] = byte(c)
				}
				want := api.ErrArg
				if volumeWords.Match(s) {
					want = api.OK
				}
				if e := Volume(string(s)); e != want {
					t.Fatalf("%q: %v, want %v", s, e, want)
				}
			}
		}
	}
}

// P6.1: the text up to the number.
func TestPrefix(t *testing.T) {
	for _, v := range volumes() {
		for kind, letter := range letterWords {
			if s, e := Prefix(v, kind); s != v+"/"+letter+"/" || e != api.OK {
				t.Errorf("%q %d: %q, %v", v, kind, s, e)
			}
		}
		for _, kind := range noKinds() {
			if s, e := Prefix(v, kind); s != "" || e != api.ErrKind {
				t.Errorf("%q %d: %q, %v", v, kind, s, e)
			}
		}
	}
}

// P6.1: what is wrong with the volume is told ahead of what is wrong with the kind.
func TestPrefixOfNoVolume(t *testing.T) {
	for _, v := range noVolumes() {
		for _, kind := range append(noKinds(), Data, Check, Manifest, Epoch) {
			if s, e := Prefix(v, kind); s != "" || e != api.ErrArg {
				t.Errorf("%q %d: %q, %v", v, kind, s, e)
			}
		}
	}
}

// P6.1: the chapter's example, and texts written out.
func TestPrint(t *testing.T) {
	for _, c := range []struct {
		n Name
		s string
	}{
		{Name{"vol", Data, 255}, "vol/d/00000000ff"},
		{Name{"vol", Data, 0}, "vol/d/0000000000"},
		{Name{"v", Check, 1}, "v/c/0000000001"},
		{Name{"v", Manifest, 16}, "v/m/0000000010"},
		{Name{"-", Epoch, 0x123456789a}, "-/e/123456789a"},
		{Name{"0", Epoch, 0xabcdef}, "0/e/0000abcdef"},
		{Name{"vol", Data, 1099511627775}, "vol/d/ffffffffff"},
		{Name{strings.Repeat("z", 32), Data, 1 << 39}, strings.Repeat("z", 32) + "/d/8000000000"},
	} {
		if s, e := Print(c.n); s != c.s || e != api.OK {
			t.Errorf("%v: %q, %v", c.n, s, e)
		}
		if n, e := Parse(c.s); n != c.n || e != api.OK {
			t.Errorf("%q: %v, %v", c.s, n, e)
		}
	}
}

// P6.1: a number is from 0 to below MaxSeq; Prefix's errors are told ahead of it.
func TestPrintOfNoName(t *testing.T) {
	for _, seq := range []int{-1, -2, -255, math.MinInt, 1099511627776, 1099511627777, 1 << 41, math.MaxInt} {
		for kind := Data; kind <= Epoch; kind++ {
			if s, e := Print(Name{"vol", kind, seq}); s != "" || e != api.ErrRange {
				t.Errorf("%d: %q, %v", seq, s, e)
			}
		}
		for _, kind := range noKinds() {
			if s, e := Print(Name{"vol", kind, seq}); s != "" || e != api.ErrKind {
				t.Errorf("%d %d: %q, %v", kind, seq, s, e)
			}
		}
		for _, v := range noVolumes() {
			if s, e := Print(Name{v, 0, seq}); s != "" || e != api.ErrArg {
				t.Errorf("%q %d: %q, %v", v, seq, s, e)
			}
		}
	}
	for _, kind := range noKinds() {
		if s, e := Print(Name{"vol", kind, 7}); s != "" || e != api.ErrKind {
			t.Errorf("%d: %q, %v", kind, s, e)
		}
	}
	for _, v := range noVolumes() {
		if s, e := Print(Name{v, Data, 7}); s != "" || e != api.ErrArg {
			t.Errorf("%q: %q, %v", v, s, e)
		}
	}
}

// P6.1: texts that are no name's.
func TestParseOfNoName(t *testing.T) {
	for _, s := range []string{
		"", "v", "/", "//", "/d/", "vol", "vol/", "vol/d", "vol/d/", "0000000000", "/0000000000",
		"/d/00000000ff", "d/00000000ff", "vol/00000000ff", "vold00000000ff", "vol//00000000ff", "vol/dd/00000000ff",
		"vol/d/0000000ff", "vol/d/000000000ff", "vol/d/ff", "vol/d/10000000000", "vol/d/00000000fF", "vol/d/00000000FF",
		"vol/d/-000000001", "vol/d/+000000001", "vol/d/0x000000ff", "vol/d/00000000_f", "vol/d/ 0000000ff", "vol/d/00000000f ",
		"vol/d/00000000fg", "vol/d/00000000f:", "vol/d/00000000f/", "vol/d/00000000f`", "vol/d/00000000f\x00", "vol/d/00000000\xc3\xa9",
		"vol/D/00000000ff", "vol/x/00000000ff", "vol/1/00000000ff", "vol/\x01/00000000ff", "vol/\xff/00000000ff", "vol/é/00000000ff",
		"Vol/d/00000000ff", "vo/l/d/00000000ff", "/vol/d/00000000ff", "vol/d/00000000ff/", "vol/d/00000000ff\n", "\nvol/d/00000000ff",
		"vol/d/d/00000000ff", "vol/d/00000000ff/d/00000000ff", "vol\\d\\00000000ff",
		strings.Repeat("v", 33) + "/d/00000000ff", strings.Repeat("v", 1<<16) + "/d/00000000ff", strings.Repeat("/", 64),
	} {
		if n, e := Parse(s); e != api.ErrForm || n != (Name{}) {
			t.Errorf("%.80q: %v, %v", s, n, e)
		}
	}
}

// P6.1: all texts that differ from a name's in one byte, one byte more, or one less.
func TestParseNearNames(t *testing.T) {
	for _, s := range []string{"v/d/0123456789", "vol/c/00000000ff", "a-0/m/abcdef0000", strings.Repeat("z", 32) + "/e/ffffffffff", "/d/0000000001", "d/d/dddddddddd"} {
		checkParse(t, s)
		for at := range len(s) + 1 {
			head, rest := s[:at], s[at:]
			checkParse(t, head)
			checkParse(t, rest)
			for c := range 256 {
				checkParse(t, head+string([]byte{byte(c)})+rest)
				if rest != "" {
					checkParse(t, head+string([]byte{byte(c)})+rest[1:])
				}
			}
			if rest != "" {
				checkParse(t, head+rest[1:])
			}
		}
	}
}

// P6.2: the numbers of one volume and kind, rising, each once.
func TestSift(t *testing.T) {
	l := []string{"vol/d/00000000ff", "vol/d/0000000001", "vol/c/0000000002", "vol/d/00000000ff", "vo/d/0000000003", "volx/d/0000000004",
		"", "vol/d/", "vol/d/000000005", "vol/d/00000000FF", "vol/x/0000000006", "/d/0000000007", "vol/d/ffffffffff", "vol/d/0000000000",
		"vol/e/0000000000", "vol/d/0000000010", "vol/d/0000000001", "vol/m/0000000009", "Vol/d/0000000008", "vol/d/0000000001/"}
	for _, c := range []struct {
		volume string
		kind   int
		want   []int
	}{
		{"vol", Data, []int{0, 1, 16, 255, api.MaxSeq - 1}},
		{"vol", Check, []int{2}},
		{"vol", Manifest, []int{9}},
		{"vol", Epoch, []int{0}},
		{"vo", Data, []int{3}},
		{"volx", Data, []int{4}},
		{"vo", Check, nil},
		{"other", Data, nil},
		{"Vol", Data, nil},
		{"vol/d", Data, nil},
		{"vol", 0, nil},
		{"vol", 5, nil},
		{"vol", -1, nil},
		{"", Data, nil},
		{"", 0, nil}, // the zero name, which Parse answers of what is no name
	} {
		if got := Sift(l, c.volume, c.kind); !slices.Equal(got, c.want) {
			t.Errorf("%q %d: %v, want %v", c.volume, c.kind, got, c.want)
		}
		if got := Sift(nil, c.volume, c.kind); len(got) != 0 {
			t.Errorf("%q %d of nothing: %v", c.volume, c.kind, got)
		}
	}
}

// P6.2: of many texts, in any order, those that are asked for, and no other ones.
func TestSiftOfMany(t *testing.T) {
	var l []string
	all := numbers()
	for i := range 4 * len(all) {
		seq := all[i*37%len(all)]
		for kind := Data; kind <= Epoch; kind++ {
			for j, v := range []string{"vol", "vo", "lov"} {
				if (seq+kind+j)%3 != 0 {
					l = append(l, textOf(t, Name{v, kind, seq}))
				}
			}
		}
	}
	for kind := Data; kind <= Epoch; kind++ {
		for j, v := range []string{"vol", "vo", "lov"} {
			var want []int
			for _, seq := range all {
				if (seq+kind+j)%3 != 0 {
					want = append(want, seq)
				}
			}
			if got := Sift(l, v, kind); !slices.Equal(got, want) {
				t.Errorf("%q %d: %v, want %v", v, kind, got, want)
			}
		}
	}
}

// P6.2: from, and the numbers behind it, one by one, as long as they are there.
func TestRun(t *testing.T) {
	for _, c := range []struct {
		l    []int
		from int
		want []int
	}{
		{[]int{1, 2, 4}, 1, []int{1, 2}},
		{[]int{1, 2, 4}, 2, []int{2}},
		{[]int{1, 2, 4}, 3, nil},
		{[]int{1, 2, 4}, 4, []int{4}},
		{[]int{1, 2, 4}, 0, nil},
		{[]int{1, 2, 4}, 5, nil},
		{[]int{4, 2, 1, 3}, 1, []int{1, 2, 3, 4}},
		{[]int{3, 1, 3, 2, 1, 2, 2}, 1, []int{1, 2, 3}},
		{[]int{7, 7, 7}, 7, []int{7}},
		{nil, 0, nil},
		{[]int{}, 0, nil},
		{[]int{0}, 0, []int{0}},
		{[]int{1, -1, 0, -2, -4}, -2, []int{-2, -1, 0, 1}},
		{[]int{-5}, -5, []int{-5}},
		{[]int{math.MaxInt}, math.MaxInt, []int{math.MaxInt}},
		{[]int{math.MinInt, math.MaxInt, math.MaxInt - 1}, math.MaxInt - 1, []int{math.MaxInt - 1, math.MaxInt}},
		{[]int{math.MinInt, math.MaxInt, math.MinInt + 1}, math.MaxInt, []int{math.MaxInt}},
		{[]int{math.MinInt, math.MaxInt, math.MinInt + 1}, math.MinInt, []int{math.MinInt, math.MinInt + 1}},
	} {
		if got := Run(c.l, c.from); !slices.Equal(got, c.want) {
			t.Errorf("%v from %d: %v, want %v", c.l, c.from, got, c.want)
		}
	}
}

// P6.2: all lists of five of the numbers 0 to 5, from each number.
func TestRunOfAllLists(t *testing.T) {
	for code := range 6 * 6 * 6 * 6 * 6 {
		var l []int
		for k := range 5 {
			l = append(l, code/[]int{1, 6, 36, 216, 1296}[k]%6)
		}
		for from := -1; from <= 7; from++ {
			var want []int
			for n := from; slices.Contains(l, n); n++ {
				want = append(want, n)
			}
			if got := Run(l, from); !slices.Equal(got, want) {
				t.Fatalf("%v from %d: %v, want %v", l, from, got, want)
			}
		}
	}
}

// R2: lists that are handed in stay as they are, and so does what stands behind their length; answers are the caller's.
func TestListsStay(t *testing.T) {
	room := []int{4, 2, 2, 3, 1, 9, 8}
	l := room[:5]
	run := Run(l, 1)
	for i := range run {
		run[i] = -1
	}
	_ = append(run, -1, -1, -1)
	if !slices.Equal(room, []int{4, 2, 2, 3, 1, 9, 8}) {
		t.Error(room)
	}
	if got := Run(l, 1); !slices.Equal(got, []int{1, 2, 3, 4}) {
		t.Error(got)
	}
	sorted := []int{1, 2, 3}
	Run(sorted, 1)[0] = -1
	if !slices.Equal(sorted, []int{1, 2, 3}) {
		t.Error(sorted)
	}
	texts := []string{"v/d/0000000002", "v/d/0000000001", "x", "v/d/0000000000"}
	was := slices.Clone(texts)
	if got := Sift(texts[:3], "v", Data); !slices.Equal(got, []int{1, 2}) || !slices.Equal(texts, was) {
		t.Error(got, texts)
	}
}

// P6.3: Parse of Print is the name, and Print of Parse the text.
func TestThereAndBack(t *testing.T) {
	for _, v := range volumes() {
		for kind := Data; kind <= Epoch; kind++ {
			for _, seq := range numbers() {
				n := Name{v, kind, seq}
				s := textOf(t, n)
				if want := fmt.Sprintf("%s/%s/%010x", v, letterWords[kind], seq); s != want {
					t.Fatalf("%v: %q, want %q", n, s, want)
				}
				back, e := Parse(s)
				if back != n || e != api.OK {
					t.Fatalf("%v: %v, %v", n, back, e)
				}
				if again := textOf(t, back); again != s {
					t.Fatalf("%q: %q", s, again)
				}
			}
		}
	}
}

// P6.3: texts of one volume and kind are in order as their numbers are.
func TestOrder(t *testing.T) {
	for _, v := range volumes() {
		for kind := Data; kind <= Epoch; kind++ {
			last := ""
			for _, seq := range numbers() {
				s := textOf(t, Name{v, kind, seq})
				if s <= last {
					t.Fatalf("%q is not above %q", s, last)
				}
				last = s
			}
		}
	}
}

// P6.3: a text begins with the Prefix of its volume and kind, and of no other one.
func TestBegins(t *testing.T) {
	var prefixes []Name
	for _, v := range volumes() {
		for kind := Data; kind <= Epoch; kind++ {
			prefixes = append(prefixes, Name{Volume: v, Kind: kind})
		}
	}
	for _, n := range prefixes {
		for _, seq := range []int{0, 1, 0xdddddddddd, 0xcccccccccc, 0xeeeeeeeeee, api.MaxSeq - 1} {
			s := textOf(t, Name{n.Volume, n.Kind, seq})
			for _, p := range prefixes {
				prefix, e := Prefix(p.Volume, p.Kind)
				if e != api.OK || strings.HasPrefix(s, prefix) != (p == n) {
					t.Errorf("%q and %q, %v", s, prefix, e)
				}
			}
		}
	}
}

// The document's limits: an object's name is one that the store takes.
func TestLength(t *testing.T) {
	if s := textOf(t, Name{strings.Repeat("v", 32), Epoch, api.MaxSeq - 1}); len(s) > api.MaxName {
		t.Error(len(s))
	}
}
