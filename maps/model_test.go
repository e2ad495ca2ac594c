package maps_test

import (
	"fmt"
	"math"
	"slices"
	"testing"

	"narthex/api"
	"narthex/maps"
)

// chance is numbers that look like chance, the same in each run.
type chance uint32

func (c *chance) below(n int) int {
	*c = *c*1664525 + 1013904223
	return int(*c>>8) % n
}

func (c *chance) of(l []int) int { return l[c.below(len(l))] }

// farInts are keys, words and numbers at the edges of what an int can be.
var farInts = []int{math.MinInt, math.MinInt + 1, -1 << 32, math.MinInt32, -9, -1, 0, 1, 2, 3, 4, 5, 8, 9, 256, math.MaxInt32, 1 << 32, 1<<32 + 1, math.MaxInt - 1, math.MaxInt}

// kinds are both, by the document's numbers.
var kinds = []int{1, 2}

// known is what the plain list has of a key: its words, and when it was added and last used.
type known struct {
	key         int
	words       [4]int
	added, used int
}

// plain is a map as a list that stands in no order: each is looked for by the time that is written beside it.
type plain struct {
	kind, room, now int
	list            []known
}

func (p *plain) clock() int {
	p.now++
	return p.now
}

func (p *plain) of(key int) *known {
	for i := range p.list {
		if p.list[i].key == key {
			return &p.list[i]
		}
	}
	return nil
}

// order is the list by when each was added, or used.
func (p *plain) order() []known {
	l := slices.Clone(p.list)
	slices.SortFunc(l, func(a, b known) int {
		if p.kind == 1 {
			return a.added - b.added
		}
		return a.used - b.used
	})
	return l
}

func (p *plain) take(key int) {
	p.list = slices.DeleteFunc(p.list, func(k known) bool { return k.key == key })
}

func (p *plain) put(key int, v [4]int) api.Errno {
	if k := p.of(key); k != nil {
		k.words, k.used = v, p.clock()
		return 0
	}
	if len(p.list) == p.room {
		if p.kind == 1 {
			return 28
		}
		p.take(p.order()[0].key)
	}
	now := p.clock()
	p.list = append(p.list, known{key, v, now, now})
	return 0
}

func (p *plain) word(key, i, n int) api.Errno {
	if i != 0 && i != 1 && i != 2 && i != 3 {
		return 22
	}
	k := p.of(key)
	if k == nil {
		return 2
	}
	k.words[i] = n
	return 0
}

func (p *plain) drop(key int) api.Errno {
	if p.of(key) == nil {
		return 2
	}
	p.take(key)
	return 0
}

// call is one call of a map, by its name.
type call struct {
	name      string
	key, i, n int
	v         maps.Value
}

// told is what any call may answer.
type told struct {
	v    maps.Value
	ok   bool
	e    api.Errno
	n    int
	list string
}

func on(m *maps.Map, c call) (x told) {
	switch c.name {
	case "Get":
		x.v, x.ok = m.Get(c.key)
	case "Use":
		x.v, x.ok = m.Use(c.key)
	case "Put":
		x.e = m.Put(c.key, c.v)
	case "Word":
		x.e = m.Word(c.key, c.i, c.n)
	case "Drop":
		x.e = m.Drop(c.key)
	case "All":
		x.list = text(m.All())
	case "Len":
		x.n = m.Len()
	case "Clear":
		m.Clear()
	}
	return x
}

func (p *plain) on(c call) (x told) {
	k := p.of(c.key)
	switch c.name {
	case "Get", "Use":
		if k != nil {
			x.v, x.ok = k.words, true
		}
		if k != nil && c.name == "Use" {
			k.used = p.clock()
		}
	case "Put":
		x.e = p.put(c.key, c.v)
	case "Word":
		x.e = p.word(c.key, c.i, c.n)
	case "Drop":
		x.e = p.drop(c.key)
	case "All":
		x.list = text(p.entries())
	case "Len":
		x.n = len(p.list)
	case "Clear":
		p.list = nil
	}
	return x
}

func (p *plain) entries() []maps.Entry {
	var l []maps.Entry
	for _, k := range p.order() {
		l = append(l, maps.Entry{Key: k.key, Value: k.words})
	}
	return l
}

func text(l []maps.Entry) string {
	s := ""
	for _, e := range l {
		s += fmt.Sprintln(e.Key, e.Value)
	}
	return s
}

// pair is a map and the list that it is held against.
type pair struct {
	m *maps.Map
	p *plain
}

func newPair(t *testing.T, kind, room int) pair {
	t.Helper()
	m, e := maps.New(kind, room)
	if e != api.OK || m == nil {
		t.Fatalf("New(%d, %d): %d", kind, room, e)
	}
	return pair{m, &plain{kind: kind, room: room}}
}

// filled has so many keys, 1 and on, and none of them used.
func filled(t *testing.T, kind, room, n int) pair {
	t.Helper()
	x := newPair(t, kind, room)
	for k := 1; k <= n; k++ {
		x.do(t, call{name: "Put", key: k, v: maps.Value{k, -k, 10 * k, math.MaxInt - k}})
	}
	return x
}

// do calls both, and holds what they answer and what they are behind it against each other.
func (x pair) do(t *testing.T, c call) {
	t.Helper()
	got, want := on(x.m, c), x.p.on(c)
	if got != want {
		t.Fatalf("kind %d, room %d: %+v: %+v, not %+v", x.p.kind, x.p.room, c, got, want)
	}
	x.same(t, c)
}

func (x pair) same(t *testing.T, c call) {
	t.Helper()
	got, want := x.m.All(), x.p.entries()
	if !slices.Equal(got, want) {
		t.Fatalf("kind %d, room %d: behind %+v: %v, not %v", x.p.kind, x.p.room, c, got, want)
	}
	if x.m.Len() != len(want) || x.m.Len() > x.p.room {
		t.Fatalf("kind %d, room %d: behind %+v: Len is %d, not %d", x.p.kind, x.p.room, c, x.m.Len(), len(want))
	}
	for _, w := range want {
		if v, ok := x.m.Get(w.Key); !ok || v != w.Value {
			t.Fatalf("kind %d, room %d: behind %+v: Get(%d): %v, %t", x.p.kind, x.p.room, c, w.Key, v, ok)
		}
	}
}
