package span_test

import (
	"math"
	"testing"

	"narthex/api"
	"narthex/span"
)

// P10.1: the document's examples.
func TestExamples(t *testing.T) {
	if w, ok := span.Where(4); !ok || w != (span.Way{Depth: 1, Outer: 0, Inner: 0}) {
		t.Errorf("Where(4): %+v, %v", w, ok)
	}
	if w, ok := span.Where(69); !ok || w != (span.Way{Depth: 2, Outer: 1, Inner: 1}) {
		t.Errorf("Where(69): %+v, %v", w, ok)
	}
	if got := span.Meta(3, 4, 5, 36, 69); got != 4 {
		t.Errorf("Meta: %d", got)
	}
}

// P10.1: each page that there is, and back.
func TestEachPage(t *testing.T) {
	l := ways()
	if len(l) != 1060 {
		t.Fatalf("%d ways", len(l))
	}
	for i, want := range l {
		if w, ok := span.Where(i); !ok || w != want {
			t.Errorf("Where(%d): %+v, %v, not %+v", i, w, ok, want)
		}
		if k, ok := span.Index(want); !ok || k != i {
			t.Errorf("Index(%+v): %d, %v, not %d", want, k, ok, i)
		}
	}
}

// P10.1: either side of each edge, written out.
func TestEdges(t *testing.T) {
	for _, c := range []struct {
		i  int
		w  span.Way
		ok bool
	}{
		{-1, span.Way{}, false},
		{0, span.Way{}, true},
		{3, span.Way{Inner: 3}, true},
		{4, span.Way{Depth: 1}, true},
		{35, span.Way{Depth: 1, Inner: 31}, true},
		{36, span.Way{Depth: 2}, true},
		{67, span.Way{Depth: 2, Inner: 31}, true},
		{68, span.Way{Depth: 2, Outer: 1}, true},
		{1059, span.Way{Depth: 2, Outer: 31, Inner: 31}, true},
		{1060, span.Way{}, false},
		{math.MinInt, span.Way{}, false},
		{math.MaxInt, span.Way{}, false},
	} {
		if w, ok := span.Where(c.i); w != c.w || ok != c.ok {
			t.Errorf("Where(%d): %+v, %v, not %+v, %v", c.i, w, ok, c.w, c.ok)
		}
	}
}

// P10.1: no page beyond the 1060.
func TestWhereNone(t *testing.T) {
	l := farInts()
	for k := range 1200 {
		l = append(l, -1-k, 1060+k)
	}
	for _, i := range l {
		if w, ok := span.Where(i); ok || w != (span.Way{}) {
			t.Errorf("Where(%d): %+v, %v", i, w, ok)
		}
	}
}

// P10.1: of all ways on either side of each edge, and far beyond, just those are a page's that Where tells.
func TestIndexOfAnyWay(t *testing.T) {
	index := map[span.Way]int{}
	for i, w := range ways() {
		index[w] = i
	}
	l := farInts()
	for n := -6; n <= 70; n++ {
		l = append(l, n)
	}
	for _, depth := range l {
		few := l
		// Far from the depths that there are a few ways are enough.
		if depth < -2 || depth > 4 {
			few = []int{math.MinInt, -1, 0, 1, 31, 32, math.MaxInt}
		}
		for _, outer := range few {
			for _, inner := range few {
				w := span.Way{Depth: depth, Outer: outer, Inner: inner}
				want, there := index[w]
				if i, ok := span.Index(w); i != want || ok != there {
					t.Errorf("Index(%+v): %d, %v, not %d, %v", w, i, ok, want, there)
				}
			}
		}
	}
}

// P10.1: ways that no page is found by, written out.
func TestIndexNone(t *testing.T) {
	for _, w := range []span.Way{
		{Depth: -1}, {Depth: 3}, {Depth: 3, Outer: 1, Inner: 1}, {Depth: math.MinInt}, {Depth: math.MaxInt}, {Depth: 1 << 32}, {Depth: 256},
		{Inner: -1}, {Inner: 4}, {Inner: 31}, {Inner: math.MinInt}, {Inner: math.MaxInt}, {Outer: 1}, {Outer: -1}, {Outer: 1, Inner: -32}, {Outer: math.MinInt}, {Outer: math.MaxInt},
		{Depth: 1, Inner: -1}, {Depth: 1, Inner: 32}, {Depth: 1, Inner: math.MinInt}, {Depth: 1, Inner: math.MaxInt}, {Depth: 1, Outer: 1}, {Depth: 1, Outer: -1}, {Depth: 1, Outer: math.MinInt}, {Depth: 1, Outer: math.MaxInt},
		{Depth: 2, Inner: -1}, {Depth: 2, Inner: 32}, {Depth: 2, Outer: 1, Inner: -1}, {Depth: 2, Outer: -1, Inner: 32}, {Depth: 2, Outer: -1}, {Depth: 2, Outer: 32}, {Depth: 2, Outer: 1 << 59}, {Depth: 2, Outer: 1 << 60, Inner: 3},
		{Depth: 2, Outer: math.MinInt}, {Depth: 2, Outer: math.MaxInt}, {Depth: 2, Inner: math.MinInt}, {Depth: 2, Inner: math.MaxInt}, {Depth: 2, Outer: math.MaxInt, Inner: math.MaxInt},
	} {
		if i, ok := span.Index(w); i != 0 || ok {
			t.Errorf("Index(%+v): %d, %v", w, i, ok)
		}
	}
}

// P10.1: pages are counted byte by byte, up to behind the greatest file.
func TestPages(t *testing.T) {
	want := 0
	for size := range api.MaxFile + 200 {
		if got := span.Pages(size); got != want {
			t.Fatalf("Pages(%d): %d, not %d", size, got, want)
		}
		// The next byte begins a page, if it is the first of one.
		if size%64 == 0 {
			want++
		}
	}
}

// P10.1
func TestPagesKnown(t *testing.T) {
	for _, c := range [][2]int{
		{0, 0}, {1, 1}, {63, 1}, {64, 1}, {65, 2}, {127, 2}, {128, 2}, {129, 3}, {67839, 1060}, {67840, 1060}, {67841, 1061}, {1 << 32, 1 << 26}, {1<<32 + 1, 1<<26 + 1},
		{math.MaxInt, 1 << 57}, {math.MaxInt - 1, 1 << 57}, {math.MaxInt - 62, 1 << 57}, {math.MaxInt - 63, 1<<57 - 1}, {math.MaxInt - 64, 1<<57 - 1}, {1<<62 + 1, 1<<56 + 1}, {1 << 62, 1 << 56},
		{-1, 0}, {-63, 0}, {-64, 0}, {-65, 0}, {-128, 0}, {-67840, 0}, {-1 << 32, 0}, {math.MinInt, 0}, {math.MinInt + 1, 0}, {math.MinInt + 64, 0},
	} {
		if got := span.Pages(c[0]); got != c[1] {
			t.Errorf("Pages(%d): %d, not %d", c[0], got, c[1])
		}
	}
}
