package bucket

import (
	"math"
	"slices"
	"strings"
	"testing"

	"lighter/api"
)

func store(t *testing.T, quota int) *Bucket {
	t.Helper()
	b, e := New(quota)
	if b == nil || e != api.OK {
		t.Fatal(quota, e)
	}
	return b
}

func put(t *testing.T, b *Bucket, name, data string) {
	t.Helper()
	if e := b.Put(name, data); e != api.OK {
		t.Fatal(name, len(data), e)
	}
}

// endFates asks till no test's fates are left.
func endFates(b *Bucket) {
	for range 64 {
		b.List("")
	}
}

// objects is the names and the bytes of all objects of a bucket, whose fates stay as they are.
func objects(t *testing.T, b *Bucket) []string {
	t.Helper()
	twin := b.Copy()
	endFates(twin)
	var out []string
	for _, name := range twin.Names() {
		data, e := twin.Get(name, 0, api.MaxObject)
		n, f := twin.Size(name)
		if e != api.OK || f != api.OK || n != len(data) {
			t.Fatal(name, e, f, n, len(data))
		}
		out = append(out, name+"="+data)
	}
	return out
}

// want holds a bucket's objects, told as name=bytes, and how many calls are late, against what they must be.
func want(t *testing.T, b *Bucket, waits int, l ...string) {
	t.Helper()
	used := 0
	for _, s := range l {
		_, data, _ := strings.Cut(s, "=")
		used += len(data)
	}
	if got := objects(t, b); !slices.Equal(got, l) || b.Used() != used || b.Waits() != waits {
		t.Errorf("%q, used %d, late %d; want %q, %d, %d", got, b.Used(), b.Waits(), l, used, waits)
	}
}

// P5.1: a quota is from 0 on, and a new bucket has no objects.
func TestNew(t *testing.T) {
	for _, quota := range []int{-1, -2, math.MinInt} {
		if b, e := New(quota); b != nil || e != api.ErrArg {
			t.Error(quota, e)
		}
	}
	for _, quota := range []int{0, 1, 65536, math.MaxInt} {
		b := store(t, quota)
		want(t, b, 0)
		if b.Quota() != quota {
			t.Error(quota, b.Quota())
		}
	}
}

// The chapter's examples.
func TestExamples(t *testing.T) {
	b := store(t, 100)
	b.Fates(Late)
	if e := b.Put("a", "xy"); e != api.ErrIO {
		t.Error(e)
	}
	if s, e := b.Get("a", 0, 9); s != "" || e != api.ErrNone {
		t.Error(s, e)
	}
	if n := b.Land(1); n != 1 {
		t.Error(n)
	}
	if s, e := b.Get("a", 0, 9); s != "xy" || e != api.OK {
		t.Error(s, e)
	}
	if e := b.Put("a", "z"); e != api.ErrThere {
		t.Error(e)
	}
}

// What is a name, as the chapter's words tell it.
const nameBytes = "abcdefghijklmnopqrstuvwxyz0123456789.-_/"

// named holds what all calls that take a name answer of one against what they must.
func named(t *testing.T, name string, good bool) {
	t.Helper()
	b := store(t, 100)
	missing, made := api.ErrArg, api.ErrArg
	if good {
		missing, made = api.ErrNone, api.OK
	}
	_, get := b.Get(name, 0, 1)
	_, size := b.Size(name)
	if remove := b.Delete(name); get != missing || size != missing || remove != missing {
		t.Errorf("%q: %v %v %v", name, get, size, remove)
	}
	if e := b.Put(name, "x"); e != made || len(b.Names()) != b.Used() || (b.Used() == 1) != good {
		t.Errorf("%q: %v %q", name, e, b.Names())
	}
	if e := b.Delete(name); e != made || b.Used() != 0 {
		t.Errorf("%q: %v", name, e)
	}
}

// P5.1, P5.2: each byte, alone and at each end, and in the middle of a name.
func TestNameBytes(t *testing.T) {
	for i := range 256 {
		c := string([]byte{byte(i)})
		good := strings.Contains(nameBytes, c)
		for _, name := range []string{c, c + "ab", "a" + c + "b", "ab" + c} {
			named(t, name, good)
		}
	}
	for _, name := range []string{"é", "a\u0161", "a b", "aB", "\x00", "a\xff"} {
		named(t, name, false)
	}
}

// P5.1, P5.2: a name has one to 64 bytes.
func TestNameLength(t *testing.T) {
	for n := 0; n < 70; n++ {
		named(t, strings.Repeat("n", n), n >= 1 && n <= 64)
	}
	named(t, strings.Repeat("n", 63)+"N", false)
	named(t, strings.Repeat("n", 100000), false)
}

// P5.1: an object has up to 65536 bytes, which may be any.
func TestPutSizes(t *testing.T) {
	for _, n := range []int{0, 1, 65535, 65536, 65537, 100000} {
		b := store(t, 1<<20)
		data := strings.Repeat("\x00\xffab", n/4+1)[:n]
		e := b.Put("a", data)
		if n > 65536 {
			if e != api.ErrArg {
				t.Error(n, e)
			}
			want(t, b, 0)
			continue
		}
		if e != api.OK {
			t.Error(n, e)
		}
		want(t, b, 0, "a="+data)
	}
}

// P5.1: what is too long, or has no name, is told ahead of all else.
func TestPutErrorsInOrder(t *testing.T) {
	long := strings.Repeat("x", 65537)
	b := store(t, 3)
	put(t, b, "a", "12")
	for _, c := range []struct {
		name, data string
		e          api.Errno
	}{
		{"a", long, api.ErrArg}, {"b", long, api.ErrArg}, {"B", "1", api.ErrArg}, {"B", "12345", api.ErrArg},
		{"a", "", api.ErrThere}, {"a", "12", api.ErrThere}, {"a", "123456", api.ErrThere},
		{"b", "12", api.ErrQuota}, {"b", long[1:], api.ErrQuota},
	} {
		if e := b.Put(c.name, c.data); e != c.e {
			t.Error(c.name, len(c.data), e, c.e)
		}
		want(t, b, 0, "a=12")
	}
}

// P5.1, P5.4: all objects together have no more bytes than the quota, and may have as many.
func TestQuota(t *testing.T) {
	for quota := range 8 {
		for first := range 10 {
			for second := range 10 {
				b := store(t, quota)
				expect := []api.Errno{api.OK, api.OK}
				used := first
				if first > quota {
					expect[0], used = api.ErrQuota, 0
				}
				if used+second > quota {
					expect[1] = api.ErrQuota
				} else {
					used += second
				}
				e, f := b.Put("a", strings.Repeat("x", first)), b.Put("b", strings.Repeat("y", second))
				if e != expect[0] || f != expect[1] || b.Used() != used {
					t.Error(quota, first, second, e, f, b.Used())
				}
			}
		}
	}
}

// P5.1: the greatest quota does not go round.
func TestGreatestQuota(t *testing.T) {
	b := store(t, math.MaxInt)
	put(t, b, "a", "123")
	put(t, b, "b", strings.Repeat("x", 65536))
	if b.Used() != 65539 || b.Quota() != math.MaxInt {
		t.Error(b.Used(), b.Quota())
	}
}

// P5.2: the bytes of an object, from any place on, as many as there are.
func TestGet(t *testing.T) {
	const data = "abcde"
	b := store(t, 100)
	put(t, b, "o", data)
	for at := 0; at < 9; at++ {
		for _, n := range []int{0, 1, 2, 4, 5, 6, 9, math.MaxInt - 1, math.MaxInt} {
			expect, wrong := "", api.ErrRange
			for i := at; i < 5 && i-at < n; i++ {
				expect += data[i : i+1]
			}
			if at <= 5 {
				wrong = api.OK
			}
			if s, e := b.Get("o", at, n); s != expect || e != wrong {
				t.Error(at, n, s, e)
			}
		}
	}
	put(t, b, "empty", "")
	if s, e := b.Get("empty", 0, 9); s != "" || e != api.OK {
		t.Error(s, e)
	}
	if s, e := b.Get("empty", 1, 0); s != "" || e != api.ErrRange {
		t.Error(s, e)
	}
}

// P5.2: what is wrong with a Get, the first named first.
func TestGetWrong(t *testing.T) {
	b := store(t, 100)
	put(t, b, "o", "abc")
	for _, c := range []struct {
		name  string
		at, n int
		e     api.Errno
	}{
		{"", 0, 1, api.ErrArg}, {"O", 0, 1, api.ErrArg}, {"O", 9, 1, api.ErrArg},
		{"o", -1, 1, api.ErrArg}, {"o", 0, -1, api.ErrArg}, {"o", math.MinInt, 1, api.ErrArg}, {"o", 0, math.MinInt, api.ErrArg},
		{"o", 9, -1, api.ErrArg}, {"q", -1, 0, api.ErrArg}, {"q", 0, -1, api.ErrArg},
		{"q", 0, 0, api.ErrNone}, {"q", 9, 9, api.ErrNone}, {"oo", 0, 1, api.ErrNone}, {"q", math.MaxInt, math.MaxInt, api.ErrNone},
		{"o", 4, 0, api.ErrRange}, {"o", 4, 1, api.ErrRange}, {"o", math.MaxInt, math.MaxInt, api.ErrRange}, {"o", math.MaxInt, 0, api.ErrRange},
	} {
		if s, e := b.Get(c.name, c.at, c.n); s != "" || e != c.e {
			t.Error(c.name, c.at, c.n, s, e, c.e)
		}
	}
	want(t, b, 0, "o=abc")
}

// P5.2: how many bytes an object has.
func TestSize(t *testing.T) {
	b := store(t, 1<<20)
	for _, n := range []int{0, 1, 7, 65536} {
		put(t, b, "o", strings.Repeat("x", n))
		if got, e := b.Size("o"); got != n || e != api.OK {
			t.Error(n, got, e)
		}
		b.Delete("o")
		if got, e := b.Size("o"); got != 0 || e != api.ErrNone {
			t.Error(n, got, e)
		}
		if got, e := b.Size("o "); got != 0 || e != api.ErrArg {
			t.Error(n, got, e)
		}
	}
}

// P5.2, P5.3: names rise byte by byte, in whatever order they were put, and are told by how they begin.
func TestList(t *testing.T) {
	rising := []string{"-", ".", "/", "0", "9", "_", "a", "a-", "a/", "a/1", "a/10", "a/2", "aa", "ab", "b", "z", "zz"}
	for turn := range rising {
		b := store(t, 1000)
		for i := range rising {
			put(t, b, rising[(i*5+turn)%len(rising)], "x")
		}
		if !slices.Equal(b.Names(), rising) {
			t.Error(turn, b.Names())
		}
		for _, prefix := range append([]string{"", "a/1", "a/3", "A", "\x00", "\xff", "ac", "b/", "zzz", "é", " "}, rising...) {
			var expect []string
			for _, name := range rising {
				if strings.HasPrefix(name, prefix) {
					expect = append(expect, name)
				}
			}
			if l, e := b.List(prefix); !slices.Equal(l, expect) || e != api.OK {
				t.Errorf("%q: %q %v", prefix, l, e)
			}
		}
		if l, e := b.List(strings.Repeat("a", 100)); len(l) != 0 || e != api.OK {
			t.Error(l, e)
		}
	}
}

// P5.2: what is deleted is no more: its bytes count no longer, and its name is free.
func TestDelete(t *testing.T) {
	b := store(t, 6)
	put(t, b, "a", "123")
	put(t, b, "b", "456")
	if e := b.Delete("c"); e != api.ErrNone {
		t.Error(e)
	}
	if e := b.Put("c", "7"); e != api.ErrQuota {
		t.Error(e)
	}
	if e := b.Delete("a"); e != api.OK {
		t.Error(e)
	}
	want(t, b, 0, "b=456")
	if e := b.Delete("a"); e != api.ErrNone {
		t.Error(e)
	}
	if _, e := b.Get("a", 0, 1); e != api.ErrNone {
		t.Error(e)
	}
	put(t, b, "a", "xyz")
	want(t, b, 0, "a=xyz", "b=456")
}

// P5.1, P5.2: all fates of calls that change something.
func TestFatesOfChanges(t *testing.T) {
	for _, c := range []struct {
		fate   int
		e      api.Errno
		behind []string // of Put(b), there
		waits  int
	}{
		{Done, api.OK, []string{"a=1", "b=2"}, 0},
		{Fails, api.ErrIO, []string{"a=1"}, 0},
		{Hidden, api.ErrIO, []string{"a=1", "b=2"}, 0},
		{Late, api.ErrIO, []string{"a=1"}, 1},
	} {
		b := store(t, 100)
		put(t, b, "a", "1")
		b.Fates(c.fate)
		if e := b.Put("b", "2"); e != c.e {
			t.Error(c.fate, e)
		}
		want(t, b, c.waits, c.behind...)
		b = store(t, 100)
		put(t, b, "a", "1")
		put(t, b, "b", "2")
		b.Fates(c.fate)
		if e := b.Delete("b"); e != c.e {
			t.Error(c.fate, e)
		}
		if len(c.behind) == 2 { // it was done
			want(t, b, c.waits, "a=1")
		} else {
			want(t, b, c.waits, "a=1", "b=2")
		}
	}
}

// P5.1, P5.2: calls that could not be done answer ErrIO too, unless their fate is Done, and change nothing.
func TestFatesOfWhatMayNotBe(t *testing.T) {
	for _, fate := range []int{Fails, Hidden, Late} {
		for _, try := range []func(b *Bucket) api.Errno{
			func(b *Bucket) api.Errno { return b.Put("a", "other") },
			func(b *Bucket) api.Errno { return b.Put("b", "12345") },
			func(b *Bucket) api.Errno { return b.Delete("b") },
		} {
			b := store(t, 5)
			put(t, b, "a", "1")
			b.Fates(fate)
			if e := try(b); e != api.ErrIO {
				t.Error(fate, e)
			}
			want(t, b, fate/Late, "a=1")
			if n := b.Land(5); n != fate/Late {
				t.Error(fate, n)
			}
			want(t, b, 0, "a=1")
		}
	}
}

// P5.2: calls that only ask fail by all fates but Done, and none of them is late.
func TestFatesOfQuestions(t *testing.T) {
	b := store(t, 100)
	put(t, b, "a", "123")
	for _, fate := range []int{Fails, Hidden, Late} {
		for _, name := range []string{"a", "q"} {
			b.Fates(fate, fate, fate)
			s, e := b.Get(name, 9, 9)
			n, f := b.Size(name)
			l, g := b.List(name)
			if s != "" || n != 0 || len(l) != 0 || e != api.ErrIO || f != api.ErrIO || g != api.ErrIO {
				t.Error(fate, name, s, n, l, e, f, g)
			}
			want(t, b, 0, "a=123")
		}
		b.Fates(Done, Done, Done, fate)
		s, e := b.Get("a", 1, 9)
		n, f := b.Size("a")
		l, g := b.List("a")
		if s != "23" || n != 3 || len(l) != 1 || e != api.OK || f != api.OK || g != api.OK {
			t.Error(fate, s, n, l, e, f, g)
		}
		if e := b.Delete("a"); e != api.ErrIO {
			t.Error(fate, e)
		}
		b = store(t, 100)
		put(t, b, "a", "123")
	}
}

// Calls that ErrArg is answered have no fate; what asks for no object has none either.
func TestNoFate(t *testing.T) {
	for _, fate := range []int{Done, Fails, Hidden, Late} {
		b := store(t, 100)
		put(t, b, "a", "1")
		b.Fates(fate, Done, Fails)
		for range 3 {
			_, get := b.Get("A", 0, 1)
			_, before := b.Get("a", -1, 1)
			_, below := b.Get("a", 0, -1)
			_, size := b.Size("")
			for i, e := range []api.Errno{get, before, below, size, b.Put("A", "1"), b.Put("b", strings.Repeat("x", 65537)), b.Delete("A")} {
				if e != api.ErrArg {
					t.Error(i, e)
				}
			}
			if b.Land(1)+b.Drop(1)+b.Waits() != 0 || b.Used() != 1 || b.Quota() != 100 || len(b.Names()) != 1 || b.Copy() == nil {
				t.Error("asked")
			}
		}
		e := b.Put("b", "2")
		_, f := b.Size("a")
		if _, g := b.List(""); (e == api.OK) != (fate == Done) || f != api.OK || g != api.ErrIO {
			t.Error(fate, e, f, g)
		}
	}
}

// Each number is one of four fates, by what it leaves divided by 4.
func TestFateNumbers(t *testing.T) {
	try := func(number, fate int) {
		t.Helper()
		b := store(t, 100)
		b.Fates(number)
		e := b.Put("a", "1")
		if (e == api.OK) != (fate == Done) || (e == api.ErrIO) != (fate != Done) {
			t.Error(number, e)
		}
		if (b.Used() == 1) != (fate == Done || fate == Hidden) || (b.Waits() == 1) != (fate == Late) {
			t.Error(number, b.Used(), b.Waits())
		}
	}
	for i := -40; i < 40; i++ {
		try(i, (i+40)%4)
	}
	try(math.MaxInt, 3)
	try(math.MaxInt-1, 2)
	try(math.MinInt, 0)
	try(math.MinInt+1, 1)
}

// P5.3: fates go behind those that were told ahead, and behind the last one all is done.
func TestFatesInOrder(t *testing.T) {
	b := store(t, 100)
	b.Fates()
	b.Fates(Fails, Done)
	b.Fates(Hidden)
	b.Fates()
	b.Fates(Done, Late, Late)
	expect := []api.Errno{api.ErrIO, api.OK, api.ErrIO, api.OK, api.ErrIO, api.ErrIO, api.OK, api.OK}
	for i, e := range expect {
		if got := b.Put(string(rune('a'+i)), ""); got != e {
			t.Error(i, got, e)
		}
		if i == 3 {
			b.Fates(Done, Done)
		}
	}
	want(t, b, 2, "b=", "c=", "d=", "g=", "h=")
}

// R2: the fates that are handed in stay as they are, those behind their length too, and are not kept.
func TestFatesUntouched(t *testing.T) {
	b := store(t, 100)
	l := []int{-1, 5, 9, 13}
	b.Fates(l[:2]...)
	b.Fates(Done)
	if !slices.Equal(l, []int{-1, 5, 9, 13}) {
		t.Error(l)
	}
	l[0], l[1] = 0, 0
	b.Put("a", "1")
	b.Put("b", "2")
	b.Put("c", "3")
	want(t, b, 1, "c=3")
}

// R2: lists that were answered are the caller's.
func TestListsAreTheCallers(t *testing.T) {
	b := store(t, 100)
	put(t, b, "a", "1")
	put(t, b, "b", "2")
	names := b.Names()
	l, _ := b.List("")
	for i := range names {
		names[i], l[i] = "x", "y"
	}
	_ = append(names[:1], "z")
	want(t, b, 0, "a=1", "b=2")
	put(t, b, "c", "3")
	if names[0] != "x" || l[1] != "y" {
		t.Error(names, l)
	}
}

// waiting is a bucket with four late calls: a is put, put again, deleted, and put once more.
func waiting(t *testing.T) *Bucket {
	t.Helper()
	b := store(t, 100)
	b.Fates(Late, Late, Late, Late)
	for i, e := range []api.Errno{b.Put("a", "1"), b.Put("a", "22"), b.Delete("a"), b.Put("a", "333")} {
		if e != api.ErrIO {
			t.Error(i, e)
		}
	}
	want(t, b, 4)
	return b
}

// P5.3: late calls land one by one, the oldest first; how many that were.
func TestLand(t *testing.T) {
	b := waiting(t)
	for i, behind := range [][]string{{"a=1"}, {"a=1"}, {}, {"a=333"}} {
		if n := b.Land(1); n != 1 {
			t.Error(i, n)
		}
		want(t, b, 3-i, behind...)
	}
	if n := b.Land(1); n != 0 {
		t.Error(n)
	}
	for _, c := range []struct{ n, done int }{{-1, 0}, {0, 0}, {math.MinInt, 0}, {1, 1}, {3, 3}, {4, 4}, {5, 4}, {math.MaxInt, 4}} {
		b := waiting(t)
		if n := b.Land(c.n); n != c.done {
			t.Error(c.n, n)
		}
		want(t, b, 4-c.done, [][]string{{}, {"a=1"}, {"a=1"}, {}, {"a=333"}}[c.done]...)
	}
}

// P5.3: late calls that are dropped are never done, the oldest first.
func TestDrop(t *testing.T) {
	for _, c := range []struct {
		n, gone int
		behind  []string
	}{
		{-1, 0, []string{"a=333"}}, {0, 0, []string{"a=333"}}, {math.MinInt, 0, []string{"a=333"}},
		{1, 1, []string{"a=333"}}, {2, 2, []string{"a=333"}}, {3, 3, []string{"a=333"}},
		{4, 4, nil}, {5, 4, nil}, {math.MaxInt, 4, nil},
	} {
		b := waiting(t)
		if n := b.Drop(c.n); n != c.gone {
			t.Error(c.n, n)
		}
		want(t, b, 4-c.gone)
		if n := b.Land(9); n != 4-c.gone {
			t.Error(c.n, n)
		}
		want(t, b, 0, c.behind...)
	}
	b := waiting(t)
	b.Drop(1)
	b.Land(1)
	want(t, b, 2, "a=22")
}

// P5.3: what lands has no fate any more, and takes none.
func TestLandTakesNoFate(t *testing.T) {
	b := waiting(t)
	b.Fates(Fails, Late)
	b.Land(4)
	want(t, b, 0, "a=333")
	if e := b.Put("b", "1"); e != api.ErrIO || b.Waits() != 0 {
		t.Error(e, b.Waits())
	}
	if e := b.Put("b", "1"); e != api.ErrIO || b.Waits() != 1 {
		t.Error(e, b.Waits())
	}
}

// P5.3, P5.4: whether there is room is asked when a call lands, not when it was called.
func TestLandAsksForRoom(t *testing.T) {
	b := store(t, 3)
	b.Fates(Late, Late, Late)
	b.Put("a", "12")
	b.Put("b", "34")
	b.Put("c", "5")
	put(t, b, "d", "")
	b.Land(3)
	want(t, b, 0, "a=12", "c=5", "d=")
	b.Fates(Late, Done)
	b.Put("e", "678")
	b.Delete("a")
	b.Delete("c")
	b.Land(1)
	want(t, b, 0, "d=", "e=678")
}

// P5.3: a call that was put again in the meantime lands as one that finds the object there.
func TestLandBehindAnother(t *testing.T) {
	b := store(t, 100)
	b.Fates(Late, Done, Late)
	b.Put("a", "old")
	put(t, b, "a", "new")
	b.Delete("a")
	b.Land(1)
	want(t, b, 1, "a=new")
	b.Land(1)
	want(t, b, 0)
}

// P5.3: a copy is the same in all, and what is done to one is not done to the other.
func TestCopy(t *testing.T) {
	b := store(t, 9)
	put(t, b, "a", "1")
	b.Fates(Late, Late, Fails, Hidden)
	b.Put("b", "2")
	b.Delete("a")
	twin := b.Copy()
	want(t, twin, 2, "a=1")
	if twin.Quota() != 9 {
		t.Error(twin.Quota())
	}
	twin.Land(1)
	want(t, twin, 1, "a=1", "b=2")
	want(t, b, 2, "a=1")
	b.Drop(1)
	b.Land(1)
	want(t, b, 0)
	want(t, twin, 1, "a=1", "b=2")
	b.Fates(Late)
	twin.Fates(Done, Fails)
	for i, c := range []struct{ b, twin api.Errno }{{api.ErrIO, api.ErrIO}, {api.ErrIO, api.ErrIO}, {api.ErrIO, api.OK}, {api.OK, api.ErrIO}, {api.OK, api.OK}} {
		name := string(rune('p' + i))
		if e, f := b.Put(name, ""), twin.Put(name, ""); e != c.b || f != c.twin {
			t.Error(i, e, f)
		}
	}
	want(t, b, 1, "q=", "s=", "t=")
	want(t, twin, 1, "a=1", "b=2", "q=", "r=", "t=")
}

// P5.3: what two copies are told is laid into lists of their own, though both grow from one, with room behind it.
func TestCopiesGrowApart(t *testing.T) {
	b := store(t, 100)
	for i := range 7 {
		name := "n" + string(rune('0'+i))
		put(t, b, name, "x")
		b.Fates(Late)
		b.Put("late"+name, "")
	}
	b.Delete("n6")
	b.Drop(5)
	b.Fates(Done, Done, Done, Done, Done, Late)
	b.Size("n1")
	twin := b.Copy()
	b.Fates(Fails, Done)
	twin.Fates(Late, Late)
	put(t, b, "o", "1")
	put(t, twin, "p", "2")
	for range 2 {
		b.Size("n1")
		twin.Size("n1")
	}
	for _, c := range []struct {
		name    string
		b, twin api.Errno
	}{{"q", api.OK, api.OK}, {"r", api.ErrIO, api.ErrIO}, {"s", api.ErrIO, api.ErrIO}, {"t", api.OK, api.ErrIO}} {
		if e, f := b.Put(c.name, "b"), twin.Put(c.name, "c"); e != c.b || f != c.twin {
			t.Error(c.name, e, f)
		}
	}
	b.Land(9)
	twin.Land(9)
	rest := []string{"laten5=", "laten6=", "n0=x", "n1=x", "n2=x", "n3=x", "n4=x", "n5=x"}
	want(t, b, 0, append(slices.Clone(rest), "o=1", "q=b", "r=b", "t=b")...)
	want(t, twin, 0, append(slices.Clone(rest), "p=2", "q=c", "r=c", "s=c", "t=c")...)
}

// P5.1 to P5.3: calls of a nil bucket answer as the chapter says, whatever they are given.
func TestNil(t *testing.T) {
	var b *Bucket
	b.Fates()
	b.Fates(1, 2)
	for _, name := range []string{"", "a", "A"} {
		s, e := b.Get(name, -1, -1)
		n, f := b.Size(name)
		l, g := b.List(name)
		for i, e := range []api.Errno{e, f, g, b.Put(name, "1"), b.Put(name, strings.Repeat("x", 65537)), b.Delete(name)} {
			if e != api.ErrNil {
				t.Error(i, e)
			}
		}
		if s != "" || n != 0 || len(l) != 0 {
			t.Error(s, n, l)
		}
	}
	for _, n := range []int{-1, 0, 1, 9} {
		if b.Land(n) != 0 || b.Drop(n) != 0 {
			t.Error(n)
		}
	}
	if b.Waits() != 0 || len(b.Names()) != 0 || b.Used() != 0 || b.Quota() != 0 || b.Copy() != nil {
		t.Error("nil")
	}
}
