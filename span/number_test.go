package span_test

import (
	"math"
	"slices"
	"testing"

	"narthex/api"
	"narthex/span"
)

// places are all that there are, some on either side, and far ones; the places in the page of some of these would wrap round into it.
func places() []int {
	l := farInts()
	for i := -3; i <= 70; i++ {
		l = append(l, i)
	}
	return l
}

// values fit into two bytes, or don't.
func values() []int {
	return []int{0, 1, 2, 127, 128, 255, 256, 257, 258, 511, 512, 0x7FFF, 0x8000, 0xFF00, 0xFFFE, 0xFFFF, 0x10000, 0x10001, 0x10102, 0x1FFFF, 0x01020304, 1<<31 - 1, 1 << 31, 1 << 32, 1<<32 + 258, 0x0102030405060708, math.MaxInt - 1, math.MaxInt,
		-1, -2, -255, -256, -257, -258, -32768, -65535, -65536, -65537, -1 << 31, -1 << 32, math.MinInt + 1, math.MinInt + 258, math.MinInt}
}

// P10.1: where each number stands, the highest byte first.
func TestNumberKnown(t *testing.T) {
	var p api.Page
	for k := range p {
		p[k] = byte(k + 1)
	}
	for _, c := range [][2]int{{0, 0x0102}, {1, 0x0304}, {2, 0x0506}, {15, 0x1F20}, {30, 0x3D3E}, {31, 0x3F40}, {-1, 0}, {32, 0}, {math.MinInt, 0}, {math.MaxInt, 0}, {1 << 62, 0}} {
		if got := span.Number(p, c[0]); got != c[1] {
			t.Errorf("Number(%d): %#x, not %#x", c[0], got, c[1])
		}
	}
}

// P10.1: the two bytes, written out: those of a number that doesn't fit are its lowest.
func TestSetNumberKnown(t *testing.T) {
	for _, c := range []struct {
		i, n   int
		hi, lo byte
	}{
		{0, 258, 1, 2}, {1, 0xFFFE, 255, 254}, {30, 7, 0, 7}, {31, 256, 1, 0}, {31, 0, 0, 0},
		{5, 65536, 0, 0}, {5, 65537, 0, 1}, {5, 0x01020304, 3, 4}, {5, math.MaxInt, 255, 255}, {5, 1 << 32, 0, 0},
		{5, -1, 255, 255}, {5, -2, 255, 254}, {5, -256, 255, 0}, {5, -65536, 0, 0}, {5, -65537, 255, 255}, {5, math.MinInt, 0, 0},
	} {
		for _, p := range somePages() {
			want := p
			want[2*c.i], want[2*c.i+1] = c.hi, c.lo
			if got := span.SetNumber(p, c.i, c.n); got != want {
				t.Errorf("SetNumber(%d, %d): %v, not %v", c.i, c.n, got, want)
			}
		}
	}
}

// P10.1: each place, there or not, of each page: all numbers, and what stands there; the page stays as it was.
func TestNumbersOfPages(t *testing.T) {
	for _, p := range somePages() {
		kept := p
		l := span.Numbers(p)
		if len(l) != 32 {
			t.Fatalf("%d numbers", len(l))
		}
		for _, i := range places() {
			want := wantNumber(p, i)
			if got := span.Number(p, i); got != want {
				t.Errorf("Number(%v, %d): %d, not %d", p, i, got, want)
			}
			if 0 <= i && i < 32 && l[i] != want {
				t.Errorf("Numbers(%v)[%d]: %d, not %d", p, i, l[i], want)
			}
		}
		if p != kept {
			t.Errorf("of the page %v came %v", kept, p)
		}
	}
}

// P10.1: each place, there or not, of each page, and numbers of all sizes: all else stays byte for byte, and so does the page that was handed in.
func TestSetNumber(t *testing.T) {
	for _, p := range somePages() {
		kept := p
		for _, i := range places() {
			for _, n := range values() {
				got := span.SetNumber(p, i, n)
				if want := wantSet(p, i, n); got != want {
					t.Fatalf("SetNumber(%v, %d, %d): %v, not %v", p, i, n, got, want)
				}
				if k := span.Number(got, i); k != wantNumber(got, i) {
					t.Fatalf("Number(%d) behind SetNumber(%d): %d", i, n, k)
				}
			}
		}
		if p != kept {
			t.Errorf("of the page %v came %v", kept, p)
		}
	}
}

// P10.1: a page that is set number by number has just these numbers.
func TestNumbersBack(t *testing.T) {
	n := noise{5}
	for range 500 {
		want := make([]int, 32)
		p := n.page()
		for _, i := range order(&n) {
			want[i] = n.below(65536)
			p = span.SetNumber(p, i, want[i])
		}
		if got := span.Numbers(p); !slices.Equal(got, want) {
			t.Fatalf("%v, not %v", got, want)
		}
	}
}

// order is all places in an order that looks like chance.
func order(n *noise) []int {
	l := make([]int, 32)
	for k := range l {
		l[k] = k
	}
	for k := 31; k > 0; k-- {
		j := n.below(k + 1)
		l[k], l[j] = l[j], l[k]
	}
	return l
}

// P10.1: what is answered shares no memory with another answer.
func TestNumbersNew(t *testing.T) {
	p := somePages()[2]
	l := span.Numbers(p)
	clear(l)
	_ = append(l[:0], 9, 9, 9)
	for i, got := range span.Numbers(p) {
		if want := wantNumber(p, i); got != want {
			t.Errorf("number %d: %d, not %d", i, got, want)
		}
	}
}
