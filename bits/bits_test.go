package bits_test

import (
	"math"
	"slices"
	"testing"

	"narthex/api"
	"narthex/bits"
)

// bitsPerPage stands as the document's number, not worked out as in the program.
const bitsPerPage = 512

// pagesOf lays bits into pages by adding up what each is worth, another way than the program's.
func pagesOf(row []bool) []api.Page {
	l := make([]api.Page, len(row)/bitsPerPage)
	for i, on := range row {
		if !on {
			continue
		}
		worth := 1
		for range i % 8 {
			worth *= 2
		}
		l[i/bitsPerPage][i/8%64] += byte(worth)
	}
	return l
}

// filled is a row of so many pages' bits that are all the same.
func filled(pages int, on bool) []bool {
	row := make([]bool, pages*bitsPerPage)
	for i := range row {
		row[i] = on
	}
	return row
}

// but is the row with some bits turned.
func but(row []bool, turned ...int) []bool {
	out := slices.Clone(row)
	for _, i := range turned {
		out[i] = !out[i]
	}
	return out
}

// noisy is a row that looks like chance, the same in each run; one of so many bits is 1.
func noisy(pages int, oneOf, seed uint32) []bool {
	row := make([]bool, pages*bitsPerPage)
	for i := range row {
		seed = seed*1664525 + 1013904223
		row[i] = (seed>>16)%oneOf == 0
	}
	return row
}

// rows are no page, one and several, of all kinds of bits.
func rows() [][]bool {
	l := [][]bool{nil}
	for n := 1; n <= 3; n++ {
		last := n*bitsPerPage - 1
		for _, on := range []bool{false, true} {
			l = append(l, filled(n, on), but(filled(n, on), 0), but(filled(n, on), last), but(filled(n, on), 7), but(filled(n, on), 8), but(filled(n, on), last-8), but(filled(n, on), 0, 9, last))
		}
		l = append(l, noisy(n, 2, 1), noisy(n, 9, 2))
	}
	for _, i := range []int{511, 512, 513, 1023} {
		l = append(l, but(filled(2, false), i), but(filled(2, true), i))
	}
	return append(l, append(filled(1, true), filled(1, false)...), append(filled(1, false), filled(1, true)...))
}

// places are bits on both sides of edges of bytes and pages, and some that no page has.
func places() []int {
	return []int{math.MinInt, math.MinInt + 1, math.MinInt + bitsPerPage, math.MinInt32, -513, -512, -511, -9, -8, -7, -1,
		0, 1, 6, 7, 8, 9, 15, 16, 63, 64, 255, 256, 503, 504, 505, 510, 511, 512, 513, 519, 520, 521,
		1015, 1016, 1023, 1024, 1025, 1535, 1536, 1537, 2048, 4096,
		math.MaxInt32, math.MaxUint32, math.MaxUint32 + 1, math.MaxInt - bitsPerPage, math.MaxInt - 8, math.MaxInt - 1, math.MaxInt}
}

// between are the bits of a row from from on, ahead of to, that are on, or that aren't.
func between(row []bool, on bool, from, to int) []int {
	var l []int
	for i, is := range row {
		if i >= from && i < to && is == on {
			l = append(l, i)
		}
	}
	return l
}

func collect(from, to int, l ...api.Page) []int {
	var got []int
	for i := range bits.All(from, to, l...) {
		got = append(got, i)
	}
	return got
}

// P7.1: the document's example.
func TestExample(t *testing.T) {
	l := bits.Set(9, true, api.Page{})
	want := api.Page{}
	want[1] = 2
	if len(l) != 1 || l[0] != want {
		t.Errorf("Set(9, true) of a zero page: %v", l)
	}
}

// P7.1: each bit of a byte is worth what it is said to be, in the first byte and page and in others.
func TestEachBitOfAByte(t *testing.T) {
	for at := range 3 * api.PageSize {
		for k, worth := range []byte{1, 2, 4, 8, 16, 32, 64, 128} {
			l := make([]api.Page, 3)
			i := at*8 + k
			set := bits.Set(i, true, l...)
			l[at/64][at%64] = worth
			if !slices.Equal(set, l) {
				t.Fatalf("Set(%d, true): %v, not %v", i, set, l)
			}
			for j := max(0, i-9); j <= i+9; j++ {
				if got := bits.Get(j, l...); got != (j == i) {
					t.Fatalf("byte %d is %d: Get(%d) is %v", at, worth, j, got)
				}
			}
			if got := collect(0, 3*bitsPerPage, l...); !slices.Equal(got, []int{i}) {
				t.Fatalf("byte %d is %d: All is %v", at, worth, got)
			}
		}
	}
}

// P7.1
func TestGetKnown(t *testing.T) {
	var p, q api.Page
	p[0], p[63], q[0] = 1, 128, 1
	for _, c := range []struct {
		i    int
		l    []api.Page
		want bool
	}{
		{0, nil, false},
		{-1, nil, false},
		{0, []api.Page{}, false},
		{0, []api.Page{p}, true},
		{1, []api.Page{p}, false},
		{510, []api.Page{p}, false},
		{511, []api.Page{p}, true},
		{512, []api.Page{p}, false},
		{-1, []api.Page{p}, false},
		{-512, []api.Page{p}, false},
		{512, []api.Page{p, q}, true},
		{513, []api.Page{p, q}, false},
		{1023, []api.Page{q, p}, true},
		{1024, []api.Page{q, p}, false},
		{math.MaxInt, []api.Page{q, p}, false},
		{math.MinInt, []api.Page{q, p}, false},
	} {
		if got := bits.Get(c.i, c.l...); got != c.want {
			t.Errorf("Get(%d) of %d pages: %v", c.i, len(c.l), got)
		}
	}
}

// P7.1: each bit that there is, and those on either side.
func TestGetEverywhere(t *testing.T) {
	for _, row := range rows() {
		l := pagesOf(row)
		for i, want := range row {
			if got := bits.Get(i, l...); got != want {
				t.Fatalf("Get(%d) of %d pages: %v, not %v", i, len(l), got, want)
			}
		}
		for _, i := range places() {
			if (i < 0 || i >= len(row)) && bits.Get(i, l...) {
				t.Fatalf("Get(%d) of %d pages, which have no such bit", i, len(l))
			}
		}
	}
}

// P7.1: a bit that is 1 and one that is 0 are set on and off; all others stay.
func TestSetEverywhere(t *testing.T) {
	for _, row := range rows() {
		l := pagesOf(row)
		for _, i := range places() {
			for _, on := range []bool{false, true} {
				want := slices.Clone(row)
				if i >= 0 && i < len(row) {
					want[i] = on
				}
				got := bits.Set(i, on, l...)
				if !slices.Equal(got, pagesOf(want)) {
					t.Fatalf("Set(%d, %v) of %d pages: %v", i, on, len(l), got)
				}
				if back := bits.Get(i, got...); back != (on && i >= 0 && i < len(row)) {
					t.Fatalf("Get(%d) behind Set(%d, %v) of %d pages: %v", i, i, on, len(l), back)
				}
			}
		}
	}
}

// P7.1: each bit, one behind the other, on and then off again.
func TestSetOneBehindTheOther(t *testing.T) {
	for _, on := range []bool{true, false} {
		row := filled(2, !on)
		l := pagesOf(row)
		for i := range row {
			row[i] = on
			if l = bits.Set(i, on, l...); !slices.Equal(l, pagesOf(row)) {
				t.Fatalf("behind Set(%d, %v): %v", i, on, l)
			}
		}
		if !slices.Equal(l, pagesOf(filled(2, on))) {
			t.Fatalf("all bits are set %v: %v", on, l)
		}
	}
}

// P7.1: without a page there is no bit.
func TestOfNoPage(t *testing.T) {
	for _, i := range places() {
		if bits.Get(i) || bits.Get(i, []api.Page{}...) {
			t.Errorf("Get(%d) of no page", i)
		}
		if len(bits.Set(i, true)) != 0 || len(bits.Set(i, false, []api.Page{}...)) != 0 {
			t.Errorf("Set(%d) of no page makes one", i)
		}
		for _, to := range places() {
			if first, n, all := bits.First(i, to), bits.Count(i, to), collect(i, to); first != -1 || n != 0 || len(all) != 0 {
				t.Errorf("from %d to %d of no page: First %d, Count %d, All %v", i, to, first, n, all)
			}
		}
	}
}

// P7.1
func TestFirstKnown(t *testing.T) {
	zeros, ones := pagesOf(filled(2, false)), pagesOf(filled(2, true))
	hole := pagesOf(but(filled(2, true), 511))
	next := pagesOf(but(filled(2, true), 512))
	for _, c := range []struct {
		l              []api.Page
		from, to, want int
	}{
		{zeros, 0, 1024, 0},
		{zeros, -7, 1024, 0},
		{zeros, math.MinInt, math.MaxInt, 0},
		{zeros, 511, 1024, 511},
		{zeros, 512, 1024, 512},
		{zeros, 1023, 1024, 1023},
		{zeros, 1023, 5000, 1023},
		{zeros, 1024, 5000, -1},
		{zeros, 5, 5, -1},
		{zeros, 6, 5, -1},
		{zeros, 0, 0, -1},
		{zeros, -1, 0, -1},
		{zeros, -9, -3, -1},
		{zeros, math.MaxInt, math.MinInt, -1},
		{ones, 0, 1024, -1},
		{ones, math.MinInt, math.MaxInt, -1},
		{hole, 0, 1024, 511},
		{hole, 511, 512, 511},
		{hole, 0, 511, -1},
		{hole, 512, 1024, -1},
		{next, 0, 1024, 512},
		{next, 0, 512, -1},
		{next, 0, 513, 512},
		{next, 513, 1024, -1},
	} {
		if got := bits.First(c.from, c.to, c.l...); got != c.want {
			t.Errorf("First from %d to %d of %v: %d, not %d", c.from, c.to, c.l, got, c.want)
		}
	}
}

// P7.1: First, Count and All of each row, between any two places, those that are the same or the wrong way round, too.
func TestRangesEverywhere(t *testing.T) {
	for _, row := range rows() {
		l := pagesOf(row)
		for _, from := range places() {
			for _, to := range places() {
				first := -1
				if zeros := between(row, false, from, to); len(zeros) > 0 {
					first = zeros[0]
				}
				if got := bits.First(from, to, l...); got != first {
					t.Fatalf("First from %d to %d of %d pages: %d, not %d", from, to, len(l), got, first)
				}
				ones := between(row, true, from, to)
				if got := bits.Count(from, to, l...); got != len(ones) {
					t.Fatalf("Count from %d to %d of %d pages: %d, not %d", from, to, len(l), got, len(ones))
				}
				if got := collect(from, to, l...); !slices.Equal(got, ones) {
					t.Fatalf("All from %d to %d of %d pages: %v, not %v", from, to, len(l), got, ones)
				}
			}
		}
	}
}

// P7.1: as many pages as a disk has at most.
func TestManyPages(t *testing.T) {
	row := noisy(api.MaxPages, 5, 4)
	l := pagesOf(row)
	ones := between(row, true, 0, len(row))
	if got := bits.Count(-1, len(row)+1, l...); got != len(ones) {
		t.Errorf("Count: %d, not %d", got, len(ones))
	}
	if got := collect(-1, len(row)+1, l...); !slices.Equal(got, ones) {
		t.Error("All isn't all bits that are 1")
	}
	last := len(row) - 1
	if got := bits.First(0, len(row), pagesOf(but(filled(api.MaxPages, true), last))...); got != last {
		t.Errorf("First where only the last bit is 0: %d", got)
	}
}

// P7.1: All is left behind any of its bits, and tells no more then.
func TestAllBrokenOff(t *testing.T) {
	row := noisy(2, 9, 3)
	ones := between(row, true, 0, len(row))
	all := bits.All(0, len(row), pagesOf(row)...)
	for n := 1; n <= len(ones); n++ {
		var got []int
		all(func(i int) bool {
			got = append(got, i)
			return len(got) < n
		})
		if !slices.Equal(got, ones[:n]) {
			t.Fatalf("left behind %d bits: %v, not %v", n, got, ones[:n])
		}
	}
	for i := range all {
		if i != ones[0] {
			t.Errorf("begins with %d, not with %d", i, ones[0])
		}
		break
	}
}

// P7.1: All is gone over twice, wholly, behind a time that was broken off, and inside itself.
func TestAllTwice(t *testing.T) {
	row := noisy(2, 20, 5)
	ones := between(row, true, 3, 1000)
	all := bits.All(3, 1000, pagesOf(row)...)
	for range 2 {
		if got := slices.Collect(all); !slices.Equal(got, ones) {
			t.Fatalf("All: %v, not %v", got, ones)
		}
	}
	for range all {
		break
	}
	if got := slices.Collect(all); !slices.Equal(got, ones) {
		t.Errorf("behind a time that was broken off: %v, not %v", got, ones)
	}
	var outer []int
	for i := range all {
		outer = append(outer, i)
		if got := slices.Collect(all); !slices.Equal(got, ones) {
			t.Fatalf("inside itself: %v, not %v", got, ones)
		}
	}
	if !slices.Equal(outer, ones) {
		t.Errorf("around itself: %v, not %v", outer, ones)
	}
}

// P7.1: no page that is handed in is written into, nor one behind them that the list has room for.
func TestPagesStayAsTheyAre(t *testing.T) {
	for _, row := range rows() {
		want := pagesOf(row)
		room := append(slices.Clone(want), pagesOf(filled(1, true))...)
		l := room[:len(want)]
		for _, i := range places() {
			bits.Get(i, l...)
			bits.Set(i, true, l...)
			bits.Set(i, false, l...)
			bits.First(i, 2000, l...)
			bits.Count(i, 2000, l...)
			for range bits.All(i, 2000, l...) {
			}
			if !slices.Equal(l, want) || room[len(want)] != pagesOf(filled(1, true))[0] {
				t.Fatalf("a call with the bit %d wrote into %d pages", i, len(want))
			}
		}
	}
}

// Rule 2 of the document: what Set answers is new memory, where there is no such bit, too, and where the bit is so already.
func TestSetSharesNothing(t *testing.T) {
	for _, i := range []int{-1, 0, 5, 512, 1023, 1024, math.MaxInt} {
		for _, on := range []bool{false, true} {
			row := noisy(2, 2, 6)
			l := pagesOf(row)
			got := bits.Set(i, on, l...)
			want := slices.Clone(got)
			for j := range got {
				got[j][0] ^= 0xFF
			}
			if !slices.Equal(l, pagesOf(row)) {
				t.Errorf("what Set(%d, %v) answers shares memory with the pages", i, on)
			}
			got = bits.Set(i, on, l...)
			clear(l)
			if !slices.Equal(got, want) {
				t.Errorf("what Set(%d, %v) answers changes with the pages", i, on)
			}
		}
	}
}

// Rule 2 of the document: All tells the bits of the pages that were handed in, whatever becomes of the list ahead of the going over or in it.
func TestAllSharesNothing(t *testing.T) {
	row := noisy(2, 4, 7)
	ones := between(row, true, 0, len(row))
	l := pagesOf(row)
	all := bits.All(0, len(row), l...)
	clear(l)
	if got := slices.Collect(all); !slices.Equal(got, ones) {
		t.Errorf("the pages were cleared ahead of it: %v, not %v", got, ones)
	}
	l = pagesOf(row)
	var got []int
	for i := range bits.All(0, len(row), l...) {
		clear(l)
		got = append(got, i)
	}
	if !slices.Equal(got, ones) {
		t.Errorf("the pages were cleared in it: %v, not %v", got, ones)
	}
}
