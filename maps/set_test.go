package maps_test

import (
	"math"
	"slices"
	"testing"

	"narthex/api"
	"narthex/maps"
)

// good are Specs that can be, each another.
var good = []maps.Spec{{Kind: 1, Room: 1}, {Kind: 2, Room: 8}, {Kind: 2, Room: 1}, {Kind: 1, Room: 8}}

// bad are Specs that can't.
var bad = []maps.Spec{{}, {Kind: 0, Room: 1}, {Kind: 3, Room: 1}, {Kind: -1, Room: 8}, {Kind: 1, Room: 0}, {Kind: 2, Room: -1}, {Kind: 1, Room: 9}, {Kind: 2, Room: 9}, {Kind: 1, Room: math.MaxInt}, {Kind: 2, Room: math.MinInt}, {Kind: math.MaxInt, Room: 1}, {Kind: math.MinInt, Room: 1}, {Kind: 1<<32 + 1, Room: 1}, {Kind: 1, Room: 1<<32 + 1}}

// isOf tells whether a map is of a Spec, by what it does once it is full; it is cleared then.
func isOf(m *maps.Map, x maps.Spec) bool {
	defer m.Clear()
	for key := range x.Room {
		if m.Len() != key || m.Put(key, maps.Value{key}) != api.OK {
			return false
		}
	}
	e := m.Put(-1, maps.Value{})
	return m.Len() == x.Room && (e == api.OK) == (x.Kind == maps.Lru)
}

// P17.1: Make makes the maps of Specs, in order: none, one, and up to four.
func TestMake(t *testing.T) {
	for n := range 5 {
		for turn := range 4 {
			l := slices.Clone(append(slices.Clone(good[turn:]), good[:turn]...)[:n])
			before := slices.Clone(l)
			s, e := maps.Make(l...)
			if e != api.OK || len(s) != n || s.Entries() != 0 {
				t.Fatalf("Make(%v): %v, %d", l, s, e)
			}
			for i := range n {
				if !isOf(s.At(i), l[i]) {
					t.Errorf("Make(%v): %d is another", l, i)
				}
			}
			if !slices.Equal(l, before) {
				t.Errorf("the Specs are others: %v, not %v", l, before)
			}
		}
	}
	if s, e := maps.Make([]maps.Spec(nil)...); len(s) != 0 || e != api.OK {
		t.Error(s, e)
	}
}

// P17.1: none and EINVAL of too many Specs, though each can be, and of Specs of which one can't, wherever it stands.
func TestMakeRefuses(t *testing.T) {
	for n := 5; n <= 9; n++ {
		l := append(slices.Clone(good), append(slices.Clone(good), good...)...)[:n]
		if s, e := maps.Make(l...); len(s) != 0 || e != api.EINVAL {
			t.Errorf("Make of %d: %v, %d", n, s, e)
		}
	}
	if s, e := maps.Make(slices.Repeat(good[:1], 1<<16)...); len(s) != 0 || e != api.EINVAL {
		t.Error(len(s), e)
	}
	for _, b := range bad {
		for n := 1; n <= 5; n++ {
			for at := range n {
				l := slices.Insert(slices.Clone(good[:n-1]), at, b)
				before := slices.Clone(l)
				if s, e := maps.Make(l...); s != nil || e != api.EINVAL || !slices.Equal(l, before) {
					t.Fatalf("Make(%v): %v, %d", l, s, e)
				}
			}
		}
	}
}

// P17.1: of the same Spec twice each map is for itself, and so is each set.
func TestEachForItself(t *testing.T) {
	for _, kind := range kinds {
		x := maps.Spec{Kind: kind, Room: 2}
		s, _ := maps.Make(x, x, x, x)
		other, _ := maps.Make(x, x, x, x)
		for i := range s {
			s.At(i).Put(i, maps.Value{i})
			s.At(i).Put(9, maps.Value{10 * i})
		}
		s.At(2).Drop(9)
		for i := range s {
			want := []maps.Entry{{i, maps.Value{i}}, {9, maps.Value{10 * i}}}
			if i == 2 {
				want = want[:1]
			}
			if got := s.At(i).All(); !slices.Equal(got, want) {
				t.Errorf("kind %d: %d has %v, not %v", kind, i, got, want)
			}
		}
		if s.Entries() != 7 || other.Entries() != 0 {
			t.Errorf("%d and %d entries", s.Entries(), other.Entries())
		}
	}
}

// P17.1: a Set doesn't hang on the Specs once it is made.
func TestSpecsAreNotKept(t *testing.T) {
	l := slices.Clone(good)
	s, _ := maps.Make(l...)
	for i := range l {
		l[i] = maps.Spec{Kind: 3 - l[i].Kind, Room: 9 - l[i].Room}
	}
	for i := range good {
		if !isOf(s.At(i), good[i]) {
			t.Errorf("%d is another", i)
		}
	}
}

// P17.1: At is the map of a number, the same each time, and nil of a number that none has.
func TestAt(t *testing.T) {
	for n := range 5 {
		s, _ := maps.Make(good[:n]...)
		for _, i := range append([]int{n, n + 1, -n - 1, math.MinInt + n, 1<<32 + n - 1}, farInts...) {
			m := s.At(i)
			if i < 0 || i >= n {
				if m != nil {
					t.Errorf("At(%d) of %d is there", i, n)
				}
				continue
			}
			m.Put(77, maps.Value{i})
			if v, ok := s[i].Get(77); !ok || v != (maps.Value{i}) || s.At(i) != m {
				t.Errorf("At(%d) of %d is another", i, n)
			}
		}
	}
	if (maps.Set(nil)).At(0) != nil || (maps.Set{nil}).At(0) != nil {
		t.Error("there is a map in none")
	}
}

// P17.1: Entries is how many all maps have, and Clear drops them all, which leaves the maps there.
func TestEntriesAndClear(t *testing.T) {
	for n := range 5 {
		for fill := range 10 {
			s, _ := maps.Make(good[:n]...)
			want := 0
			for i := range n {
				k := min((fill*(i+3))%10, good[i].Room)
				for key := range k {
					s.At(i).Put(key, maps.Value{1})
				}
				want += k
			}
			if got := s.Entries(); got != want {
				t.Fatalf("%d entries, not %d", got, want)
			}
			s.Clear()
			if s.Entries() != 0 || len(s) != n {
				t.Fatalf("behind Clear: %d entries in %d maps", s.Entries(), len(s))
			}
			for i := range n {
				if s.At(i).Len() != 0 || !isOf(s.At(i), good[i]) {
					t.Fatalf("behind Clear: %d is another", i)
				}
			}
			s.Clear()
		}
	}
}

// P17.1: sets that have no map, or a nil one, have no entries of it.
func TestSetsWithNothing(t *testing.T) {
	m, _ := maps.New(maps.Hash, 2)
	m.Put(1, maps.Value{})
	s := maps.Set{nil, m, nil}
	if s.Entries() != 1 || maps.Set(nil).Entries() != 0 || (maps.Set{}).Entries() != 0 {
		t.Error(s.Entries())
	}
	s.Clear()
	maps.Set(nil).Clear()
	if m.Len() != 0 || s.At(0) != nil || s.At(1) != m {
		t.Error(m.All())
	}
}
