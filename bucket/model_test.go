package bucket

import (
	"maps"
	"slices"
	"strconv"
	"strings"
	"testing"

	"lighter/api"
)

// model is a bucket as the chapter's words tell it.
type model struct {
	quota   int
	objects map[string]string
	fates   []int
	late    []told
}

// told is a call that is late: a Put, or a Delete.
type told struct {
	put        bool
	name, data string
}

func (m *model) clone() *model {
	return &model{quota: m.quota, objects: maps.Clone(m.objects), fates: slices.Clone(m.fates), late: slices.Clone(m.late)}
}

func (m *model) fate() int {
	if len(m.fates) == 0 {
		return Done
	}
	f := m.fates[0]
	m.fates = slices.Clone(m.fates[1:])
	return f
}

func (m *model) used() int {
	n := 0
	for _, data := range m.objects {
		n += len(data)
	}
	return n
}

func (m *model) do(c told) api.Errno {
	_, there := m.objects[c.name]
	switch {
	case c.put && there:
		return api.ErrThere
	case c.put && m.used()+len(c.data) > m.quota:
		return api.ErrQuota
	case c.put:
		m.objects[c.name] = c.data
	case !there:
		return api.ErrNone
	default:
		delete(m.objects, c.name)
	}
	return api.OK
}

func (m *model) call(c told) api.Errno {
	switch m.fate() {
	case Done:
		return m.do(c)
	case Hidden:
		m.do(c)
	case Late:
		m.late = append(m.late, c)
	}
	return api.ErrIO
}

// names is the names that begin so, rising, in one text.
func (m *model) names(prefix string) string {
	var l []string
	for name := range m.objects {
		if strings.HasPrefix(name, prefix) {
			l = append(l, name)
		}
	}
	slices.Sort(l)
	return strings.Join(l, " ")
}

func (m *model) land(n int, done bool) int {
	k := 0
	for ; k < n && len(m.late) > 0; k++ {
		if done {
			m.do(m.late[0])
		}
		m.late = slices.Clone(m.late[1:])
	}
	return k
}

// answer is all that a call told, as a text.
func answer(s string, e api.Errno) string { return s + ": " + e.Error() }

// step is a call, on a bucket and on its model, and what both answer.
type step struct {
	real func(b *Bucket) string
	told func(m *model) string
}

// steps are the calls that may follow one another: few names, few bytes, so that calls meet.
func steps() []step {
	var l []step
	add := func(real func(b *Bucket) string, told func(m *model) string) { l = append(l, step{real, told}) }
	for _, c := range []told{{true, "a", "1"}, {true, "a", "22"}, {true, "ab", "333"}, {false, "a", ""}, {false, "ab", ""}} {
		add(func(b *Bucket) string {
			if c.put {
				return answer("", b.Put(c.name, c.data))
			}
			return answer("", b.Delete(c.name))
		}, func(m *model) string { return answer("", m.call(c)) })
	}
	add(func(b *Bucket) string { return answer(b.Get("a", 1, 1)) }, (*model).getOne)
	add(func(b *Bucket) string {
		l, e := b.List("a")
		return answer(strings.Join(l, " "), e)
	}, func(m *model) string {
		if m.fate() != Done {
			return answer("", api.ErrIO)
		}
		return answer(m.names("a"), api.OK)
	})
	for _, fates := range [][]int{{Fails}, {Hidden}, {Late}, {Late, Done, Late}} {
		add(func(b *Bucket) string { b.Fates(fates...); return "" },
			func(m *model) string { m.fates = append(slices.Clone(m.fates), fates...); return "" })
	}
	for _, n := range []int{1, 2} {
		add(func(b *Bucket) string { return strconv.Itoa(b.Land(n)) },
			func(m *model) string { return strconv.Itoa(m.land(n, true)) })
	}
	add(func(b *Bucket) string { return strconv.Itoa(b.Drop(1)) },
		func(m *model) string { return strconv.Itoa(m.land(1, false)) })
	return l
}

// getOne is what Get(a, 1, 1) must tell: a has never more than two bytes.
func (m *model) getOne() string {
	if m.fate() != Done {
		return answer("", api.ErrIO)
	}
	data, there := m.objects["a"]
	if !there {
		return answer("", api.ErrNone)
	}
	return answer(data[1:], api.OK)
}

// same holds a bucket against its model, in all that can be asked ahead of the next fate, and, by a copy, behind all fates.
func same(t *testing.T, b *Bucket, m *model) {
	t.Helper()
	if got := strings.Join(b.Names(), " "); got != m.names("") || b.Used() != m.used() || b.Waits() != len(m.late) || b.Quota() != m.quota {
		t.Errorf("%q used %d late %d; want %q, %d, %d", got, b.Used(), b.Waits(), m.names(""), m.used(), len(m.late))
	}
	if b.Used() > b.Quota() {
		t.Error("beyond the quota", b.Used())
	}
	twin := b.Copy()
	for i, fate := range m.fates {
		if _, e := twin.Size("a"); (e == api.ErrIO) != (fate != Done) {
			t.Error("fate", i, e, fate)
		}
	}
	for name, data := range m.objects {
		if got, e := twin.Get(name, 0, 9); got != data || e != api.OK {
			t.Error(name, got, data, e)
		}
	}
}

func start(t *testing.T) (*Bucket, *model) {
	return store(t, 4), &model{quota: 4, objects: map[string]string{}}
}

// P5.1 to P5.4: all ways of four calls, one behind the other, against the model.
func TestAgainstModel(t *testing.T) {
	var walk func(b *Bucket, m *model, deep int)
	walk = func(b *Bucket, m *model, deep int) {
		same(t, b, m)
		if deep == 0 || t.Failed() {
			return
		}
		for i, s := range steps() {
			twin, n := b.Copy(), m.clone()
			if got, expect := s.real(twin), s.told(n); got != expect {
				t.Error(i, got, expect)
			}
			walk(twin, n, deep-1)
		}
	}
	b, m := start(t)
	walk(b, m, 4)
}

// P5.1 to P5.4: many long ways of calls, each chosen by a number that is turned on and on.
func TestLongAgainstModel(t *testing.T) {
	number := uint64(1)
	l := steps()
	for run := range 1000 {
		b, m := start(t)
		for i := range 60 {
			number = number*6364136223846793005 + 1442695040888963407
			s := l[(number>>33)%uint64(len(l))]
			if got, expect := s.real(b), s.told(m); got != expect {
				t.Fatal(run, i, got, expect)
			}
			same(t, b, m)
			if t.Failed() {
				t.FailNow()
			}
		}
	}
}

// P5.4: an object is as it was put, whatever is called but a Delete of it; what is handed in behind it is another's.
func TestObjectStays(t *testing.T) {
	calls := []func(b *Bucket){
		func(b *Bucket) { b.Put("a", "other") },
		func(b *Bucket) { b.Put("a", "") },
		func(b *Bucket) { b.Put("b", "big enough") },
		func(b *Bucket) { b.Delete("b") },
		func(b *Bucket) { b.Delete("A") },
		func(b *Bucket) { b.Get("a", 0, 2) },
		func(b *Bucket) { b.Size("a") },
		func(b *Bucket) { b.List("a") },
		func(b *Bucket) { b.Fates(1, 2, 3) },
		func(b *Bucket) { b.Land(9) },
		func(b *Bucket) { b.Drop(1) },
		func(b *Bucket) { b.Copy().Delete("a") },
		func(b *Bucket) { b.Copy().Fates(2) },
	}
	for fate := range 4 {
		b := store(t, 20)
		put(t, b, "a", "as it was")
		for i, call := range calls {
			b.Fates(fate)
			call(b)
			twin := b.Copy()
			endFates(twin)
			if s, e := twin.Get("a", 0, 99); s != "as it was" || e != api.OK {
				t.Error(fate, i, s, e)
			}
		}
	}
}

// P5.4: a call that failed is as if it had not been, or as if it was done, now or later.
func TestFailedCalls(t *testing.T) {
	calls := []func(b *Bucket) api.Errno{
		func(b *Bucket) api.Errno { return b.Put("b", "2") },
		func(b *Bucket) api.Errno { return b.Put("a", "2") },
		func(b *Bucket) api.Errno { return b.Put("c", "too many") },
		func(b *Bucket) api.Errno { return b.Delete("a") },
		func(b *Bucket) api.Errno { return b.Delete("b") },
	}
	for i, call := range calls {
		b := store(t, 3)
		put(t, b, "a", "1")
		was := objects(t, b)
		plain := b.Copy()
		call(plain)
		done := objects(t, plain)
		for fate, expect := range [][]string{Done: done, Fails: was, Hidden: done, Late: was} {
			twin := b.Copy()
			twin.Fates(fate)
			if e := call(twin); fate != Done && e != api.ErrIO {
				t.Error(i, fate, e)
			}
			if got := objects(t, twin); !slices.Equal(got, expect) {
				t.Error(i, fate, got, expect)
			}
			dropped := twin.Copy()
			dropped.Drop(1)
			if got := objects(t, dropped); !slices.Equal(got, expect) || dropped.Waits() != 0 {
				t.Error(i, fate, got, expect)
			}
			if twin.Land(1) == 1 {
				expect = done
			}
			if got := objects(t, twin); !slices.Equal(got, expect) || twin.Waits() != 0 {
				t.Error(i, fate, got, expect)
			}
		}
	}
}
