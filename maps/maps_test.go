package maps_test

import (
	"math"
	"slices"
	"testing"

	"narthex/api"
	"narthex/maps"
)

// P17.1: the document's example.
func TestExample(t *testing.T) {
	m, e := maps.New(maps.Lru, 2)
	if e != api.OK {
		t.Fatal(e)
	}
	put := func(key int) {
		t.Helper()
		if e := m.Put(key, maps.Value{}); e != api.OK {
			t.Fatal(key, e)
		}
	}
	put(1)
	put(2)
	if _, ok := m.Use(1); !ok {
		t.Fatal("1 isn't there")
	}
	put(3)
	if got := m.All(); !slices.Equal(got, []maps.Entry{{Key: 1}, {Key: 3}}) {
		t.Error(got)
	}
}

// P17.1: the kinds have the document's numbers, and a value four words.
func TestNumbers(t *testing.T) {
	if maps.Hash != 1 || maps.Lru != 2 || len(maps.Value{}) != 4 {
		t.Error(maps.Hash, maps.Lru, len(maps.Value{}))
	}
}

// P17.1: a map is made of the two kinds alone, with room for one to eight entries.
func TestNew(t *testing.T) {
	numbers := append([]int{6, 7, 10, -2}, farInts...)
	for _, kind := range numbers {
		for _, room := range numbers {
			m, e := maps.New(kind, room)
			want := api.Errno(22)
			if (kind == 1 || kind == 2) && room > 0 && room < 9 {
				want = 0
			}
			if e != want || (m != nil) != (want == 0) {
				t.Fatalf("New(%d, %d): %v, %d", kind, room, m, e)
			}
			if m != nil && (m.Len() != 0 || len(m.All()) != 0) {
				t.Fatalf("New(%d, %d) has entries: %v", kind, room, m.All())
			}
		}
	}
}

// P17.1: each room has what it says: so many keys, and of one more a Hash none and an Lru the newest.
func TestRoom(t *testing.T) {
	for room := 1; room <= 8; room++ {
		h, l := filled(t, 1, room, room).m, filled(t, 2, room, room).m
		if e := h.Put(room+1, maps.Value{1}); e != 28 || h.Len() != room {
			t.Errorf("room %d: Put into a full Hash: %d, %v", room, e, h.All())
		}
		if v, ok := h.Get(room + 1); ok || v != (maps.Value{}) {
			t.Errorf("room %d: it is there: %v", room, v)
		}
		if e := l.Put(room+1, maps.Value{1}); e != 0 || l.Len() != room {
			t.Errorf("room %d: Put into a full Lru: %d, %v", room, e, l.All())
		}
		if _, ok := l.Get(1); ok {
			t.Errorf("room %d: the eldest is there still: %v", room, l.All())
		}
	}
}

// keysFor are keys that may be there, edges, and some that only look alike.
func keysFor(room int) []int {
	return append([]int{room - 1, room, room + 1, -room, 1<<32 + room, math.MinInt + room}, farInts...)
}

// P17.1: each call, of a key that is there and of one that isn't, in the empty map, in one with room and in a full one, of both kinds and each room.
func TestEachCall(t *testing.T) {
	v := maps.Value{math.MinInt, -1, 0, math.MaxInt}
	for _, kind := range kinds {
		for room := 1; room <= 8; room++ {
			for n := 0; n <= room; n++ {
				for _, key := range keysFor(room) {
					for _, c := range []call{{name: "Get", key: key}, {name: "Use", key: key}, {name: "Put", key: key, v: v}, {name: "Put", key: key}, {name: "Word", key: key, i: 3, n: -7}, {name: "Word", key: key, i: -1, n: 1}, {name: "Drop", key: key}} {
						x := filled(t, kind, room, n)
						x.do(t, c)
						x.do(t, call{name: "Put", key: -100, v: v})
						x.do(t, c)
					}
				}
			}
		}
	}
}

// P17.1: any int is a key, and no two keys are one: in a map there are only far ones.
func TestFarKeys(t *testing.T) {
	for _, kind := range kinds {
		x := newPair(t, kind, 8)
		for round := range 3 {
			for i, key := range farInts {
				x.do(t, call{name: "Put", key: key, v: maps.Value{key, i, round, -key}})
				x.do(t, call{name: "Use", key: farInts[i/2]})
				x.do(t, call{name: "Word", key: farInts[i/3], i: i % 4, n: key})
			}
			x.do(t, call{name: "Drop", key: farInts[round]})
		}
	}
}

// P17.1: a Put into a full Hash of a key that isn't there is ENOSPC, and nothing is done; of one that is there it isn't.
func TestFullHash(t *testing.T) {
	m, _ := maps.New(maps.Hash, 2)
	m.Put(0, maps.Value{1, 2, 3, 4})
	m.Put(-5, maps.Value{5})
	before := m.All()
	for _, key := range []int{1, 5, -4, math.MinInt, math.MaxInt} {
		if e := m.Put(key, maps.Value{9, 9, 9, 9}); e != api.ENOSPC || !slices.Equal(m.All(), before) {
			t.Fatalf("Put(%d): %d, %v", key, e, m.All())
		}
	}
	if e := m.Put(0, maps.Value{6}); e != api.OK || !slices.Equal(m.All(), []maps.Entry{{0, maps.Value{6}}, {-5, maps.Value{5}}}) {
		t.Fatalf("Put of one that is there: %d, %v", e, m.All())
	}
	if m.Drop(-5) != api.OK || m.Put(1, maps.Value{}) != api.OK {
		t.Errorf("there is room again: %v", m.All())
	}
}

// P17.1: of a full Lru the eldest use goes, not the one that was added first.
func TestFullLru(t *testing.T) {
	m, _ := maps.New(maps.Lru, 3)
	for key := range 3 {
		m.Put(key, maps.Value{key})
	}
	m.Use(0)
	m.Put(1, maps.Value{10})
	if e := m.Put(7, maps.Value{7}); e != api.OK {
		t.Fatal(e)
	}
	if got := m.All(); !slices.Equal(got, []maps.Entry{{0, maps.Value{0}}, {1, maps.Value{10}}, {7, maps.Value{7}}}) {
		t.Errorf("%v", got)
	}
	if e := m.Put(0, maps.Value{4}); e != api.OK || m.Len() != 3 {
		t.Fatal(e, m.All())
	}
	m.Put(8, maps.Value{})
	if got := keysOf(m); !slices.Equal(got, []int{7, 0, 8}) {
		t.Errorf("%v", got)
	}
}

func keysOf(m *maps.Map) []int {
	var l []int
	for _, e := range m.All() {
		l = append(l, e.Key)
	}
	return l
}

// P17.1: a Hash's order is when keys were added, whatever was used or put again; an Lru's when they were last used; Get, Word, All and Len use nothing, nor does a Use or Put that is of no key.
func TestOrder(t *testing.T) {
	for _, x := range []struct {
		c         call
		hash, lru []int
	}{
		{call{name: "Use", key: 4}, []int{4, 2, 9, 1}, []int{2, 9, 1, 4}},
		{call{name: "Use", key: 2}, []int{4, 2, 9, 1}, []int{4, 9, 1, 2}},
		{call{name: "Use", key: 9}, []int{4, 2, 9, 1}, []int{4, 2, 1, 9}},
		{call{name: "Use", key: 1}, []int{4, 2, 9, 1}, []int{4, 2, 9, 1}},
		{call{name: "Use", key: 5}, []int{4, 2, 9, 1}, []int{4, 2, 9, 1}},
		{call{name: "Put", key: 4}, []int{4, 2, 9, 1}, []int{2, 9, 1, 4}},
		{call{name: "Put", key: 9}, []int{4, 2, 9, 1}, []int{4, 2, 1, 9}},
		{call{name: "Put", key: 1}, []int{4, 2, 9, 1}, []int{4, 2, 9, 1}},
		{call{name: "Put", key: 0}, []int{4, 2, 9, 1, 0}, []int{4, 2, 9, 1, 0}},
		{call{name: "Get", key: 4}, []int{4, 2, 9, 1}, []int{4, 2, 9, 1}},
		{call{name: "Word", key: 4, i: 1, n: 3}, []int{4, 2, 9, 1}, []int{4, 2, 9, 1}},
		{call{name: "All"}, []int{4, 2, 9, 1}, []int{4, 2, 9, 1}},
		{call{name: "Len"}, []int{4, 2, 9, 1}, []int{4, 2, 9, 1}},
		{call{name: "Drop", key: 4}, []int{2, 9, 1}, []int{2, 9, 1}},
		{call{name: "Drop", key: 9}, []int{4, 2, 1}, []int{4, 2, 1}},
		{call{name: "Drop", key: 1}, []int{4, 2, 9}, []int{4, 2, 9}},
		{call{name: "Clear"}, nil, nil},
	} {
		for _, kind := range kinds {
			m, _ := maps.New(kind, 6)
			for _, key := range []int{4, 2, 9, 1} {
				m.Put(key, maps.Value{key})
			}
			on(m, x.c)
			want := x.hash
			if kind == maps.Lru {
				want = x.lru
			}
			if got := keysOf(m); !slices.Equal(got, want) {
				t.Errorf("kind %d, %+v: %v, not %v", kind, x.c, got, want)
			}
		}
	}
}

// P17.1: which goes from a full Lru hangs on uses alone, behind each call of each key.
func TestNothingElseUses(t *testing.T) {
	for key := 1; key <= 3; key++ {
		for _, c := range []call{{name: "Get", key: key}, {name: "Word", key: key, i: 0, n: 5}, {name: "Word", key: key, i: 4}, {name: "All"}, {name: "Len"}, {name: "Drop", key: 9}, {name: "Use", key: 9}} {
			x := filled(t, 2, 3, 3)
			for range 3 {
				x.do(t, c)
			}
			x.do(t, call{name: "Put", key: 4})
			if got := keysOf(x.m); !slices.Equal(got, []int{2, 3, 4}) {
				t.Errorf("%+v: %v", c, got)
			}
		}
	}
}

// P17.1: a Word changes one word of one value; there are four, and EINVAL is asked ahead of ENOENT.
func TestWord(t *testing.T) {
	for _, kind := range kinds {
		for key := range 5 {
			for _, i := range farInts {
				x := filled(t, kind, 4, 3)
				c := call{name: "Word", key: key, i: i, n: math.MinInt}
				x.do(t, c)
				there := key >= 1 && key <= 3
				want := map[bool]api.Errno{true: 0, false: 2}[there]
				if i < 0 || i > 3 {
					want = 22
				}
				if e := x.m.Word(key, i, math.MinInt); e != want {
					t.Fatalf("%+v: %d", c, e)
				}
			}
		}
	}
	m, _ := maps.New(maps.Hash, 1)
	m.Put(7, maps.Value{1, 2, 3, 4})
	m.Word(7, 0, 10)
	m.Word(7, 3, -40)
	if v, ok := m.Get(7); !ok || v != (maps.Value{10, 2, 3, -40}) {
		t.Error(v, ok)
	}
}

// P17.1: the eldest, one in the middle or the newest is dropped, and put again it is the newest.
func TestDrop(t *testing.T) {
	for _, kind := range kinds {
		for n := 1; n <= 8; n++ {
			for key := 1; key <= n; key++ {
				x := filled(t, kind, 8, n)
				x.do(t, call{name: "Drop", key: key})
				x.do(t, call{name: "Drop", key: key})
				x.do(t, call{name: "Get", key: key})
				x.do(t, call{name: "Word", key: key, i: 1, n: 1})
				x.do(t, call{name: "Put", key: key, v: maps.Value{9}})
				want := []int{key}
				for k := n; k >= 1; k-- {
					if k != key {
						want = slices.Insert(want, 0, k)
					}
				}
				if got := keysOf(x.m); !slices.Equal(got, want) {
					t.Fatalf("kind %d: %d of %d: %v, not %v", kind, key, n, got, want)
				}
				if v, ok := x.m.Get(key); !ok || v != (maps.Value{9}) {
					t.Fatalf("kind %d: %d of %d: %v", kind, key, n, v)
				}
			}
		}
	}
}

// P17.1: a map that is cleared has nothing, and all of its room.
func TestClear(t *testing.T) {
	for _, kind := range kinds {
		for room := 1; room <= 8; room++ {
			for _, n := range []int{0, room / 2, room} {
				x := filled(t, kind, room, n)
				x.do(t, call{name: "Clear"})
				if x.m.Len() != 0 || len(x.m.All()) != 0 {
					t.Fatalf("%v", x.m.All())
				}
				for k := 0; k <= room; k++ {
					x.do(t, call{name: "Get", key: k})
					x.do(t, call{name: "Put", key: k, v: maps.Value{-k}})
				}
				x.do(t, call{name: "Clear"})
				x.do(t, call{name: "Clear"})
			}
		}
	}
}

// P17.1: what was told stays as it is whatever is done behind it, and a change of it changes no map.
func TestNothingShared(t *testing.T) {
	for _, kind := range kinds {
		for n := 1; n <= 8; n++ {
			x := filled(t, kind, 8, n)
			first := x.m.All()
			kept := slices.Clone(first)
			got, _ := x.m.Get(1)
			used, _ := x.m.Use(1)
			x.p.of(1).used = x.p.clock()
			for k := 1; k <= n; k++ {
				x.do(t, call{name: "Word", key: k, i: 0, n: -50})
				x.do(t, call{name: "Put", key: k, v: maps.Value{-k}})
				x.do(t, call{name: "Use", key: 1})
				x.do(t, call{name: "Drop", key: k})
				x.do(t, call{name: "Put", key: 20 + k, v: maps.Value{7}})
			}
			if !slices.Equal(first, kept) || got != kept[0].Value || used != kept[0].Value {
				t.Fatalf("kind %d: what was told is another: %v, %v, %v, not %v", kind, first, got, used, kept)
			}
			spoil(x.m.All())
			x.same(t, call{name: "All"})
			x.do(t, call{name: "Clear"})
			x.do(t, call{name: "Put", key: 3})
			if !slices.Equal(first, kept) {
				t.Fatalf("kind %d: %v, not %v", kind, first, kept)
			}
		}
	}
}

// spoil changes all that a list has, and what lies behind it.
func spoil(l []maps.Entry) {
	l = l[:cap(l)]
	for i := range l {
		l[i] = maps.Entry{Key: -99, Value: maps.Value{-1, -2, -3, -4}}
	}
}

// P17.1: a value that is handed in isn't kept, but a copy of it, and no argument is changed.
func TestValueIsCopied(t *testing.T) {
	for _, kind := range kinds {
		m, _ := maps.New(kind, 2)
		v := maps.Value{1, 2, 3, 4}
		m.Put(1, v)
		m.Put(2, v)
		m.Word(1, 0, 9)
		if v != (maps.Value{1, 2, 3, 4}) {
			t.Error("the argument is another", v)
		}
		v[1] = 8
		a, _ := m.Get(1)
		b, _ := m.Get(2)
		if a != (maps.Value{9, 2, 3, 4}) || b != (maps.Value{1, 2, 3, 4}) {
			t.Error(a, b)
		}
	}
}

// P17.1: of a nil map there is EINVAL of Put and Word, ENOENT of Drop, and nothing.
func TestNilMap(t *testing.T) {
	var m *maps.Map
	for _, key := range farInts {
		for _, c := range []call{{name: "Get", key: key}, {name: "Use", key: key}, {name: "All"}, {name: "Len"}, {name: "Clear"}} {
			if x := on(m, c); x != (told{}) {
				t.Fatalf("%+v: %+v", c, x)
			}
		}
		if e := m.Put(key, maps.Value{1}); e != api.EINVAL {
			t.Fatalf("Put(%d): %d", key, e)
		}
		for _, i := range farInts {
			if e := m.Word(key, i, 1); e != api.EINVAL {
				t.Fatalf("Word(%d, %d): %d", key, i, e)
			}
		}
		if e := m.Drop(key); e != api.ENOENT {
			t.Fatalf("Drop(%d): %d", key, e)
		}
	}
	if len(m.All()) != 0 {
		t.Error("entries")
	}
}
