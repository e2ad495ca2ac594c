package page_test

import (
	"math"
	"slices"
	"strings"
	"testing"

	"narthex/api"
	"narthex/page"
)

// noise is bytes that look like chance, the same in each run.
func noise(n int, seed uint32) string {
	out := make([]byte, n)
	for i := range out {
		seed = seed*1664525 + 1013904223
		out[i] = byte(seed >> 24)
	}
	return string(out)
}

// filled is a page without a byte that is 0, so that a byte that is lost is seen.
func filled() api.Page {
	var p api.Page
	for i := range p {
		p[i] = byte(i + 1)
	}
	return p
}

func pages(n int, seed uint32) []api.Page {
	l := make([]api.Page, n)
	for i := range l {
		copy(l[i][:], noise(api.PageSize, seed+uint32(i)))
	}
	return l
}

// ints are places and sizes on both sides of each edge, and those of which a sum or a difference would wrap round.
func ints() []int {
	l := []int{math.MinInt, math.MinInt + 1, math.MinInt + 4, math.MinInt + 64, math.MinInt32, -256, -65,
		math.MaxInt32, math.MaxInt32 + 1, math.MaxUint32, math.MaxUint32 + 1, math.MaxInt - 64, math.MaxInt - 4, math.MaxInt - 1, math.MaxInt, 128, 256, 257, 320}
	for n := -64; n <= 70; n++ {
		l = append(l, n)
	}
	return l
}

// numbers are some of each size, the greatest of each size, and some that do not fit.
func numbers() []int {
	return []int{0, 1, 2, 127, 128, 255, 256, 257, 258, 0x7FFF, 0x8000, 0xFFFF, 0x10000, 0x010203, 0xFFFFFF, 0x1000000,
		0x01020304, 0x7FFFFFFF, 0x80000000, 0xFFFFFFFE, 0xFFFFFFFF, 0x100000000, 0x0102030405060708,
		math.MaxInt, math.MaxInt - 1, math.MinInt, math.MinInt + 1, -1, -2, -256, -257, -0x10000, -0x80000000, -0x100000000}
}

// isIn tells the edge another way than the program: each byte by itself is asked for.
func isIn(at, size int) bool {
	if size < 0 || size > api.PageSize {
		return false
	}
	for i := range size {
		if at < 0 || at > api.PageSize-1-i {
			return false
		}
	}
	return true
}

// lowest is n modulo 256 to the power of size, never below 0.
func lowest(n, size int) int {
	m := 1
	for range size {
		m *= 256
	}
	return (n%m + m) % m
}

// P2.1
func TestSetKnown(t *testing.T) {
	for _, c := range []struct {
		at, size, n int
		want        string
	}{
		{3, 2, 258, "\x01\x02"},
		{0, 1, 0, "\x00"},
		{0, 1, 255, "\xff"},
		{0, 1, 256, "\x00"},
		{0, 1, 257, "\x01"},
		{63, 1, 7, "\x07"},
		{62, 2, 0xABCD, "\xab\xcd"},
		{10, 2, 1, "\x00\x01"},
		{10, 2, 0x12345, "\x23\x45"},
		{61, 3, 0x010203, "\x01\x02\x03"},
		{5, 3, 0xFF000001, "\x00\x00\x01"},
		{60, 4, 0x01020304, "\x01\x02\x03\x04"},
		{0, 4, 0xFFFFFFFF, "\xff\xff\xff\xff"},
		{0, 4, 0x1FFFFFFFE, "\xff\xff\xff\xfe"},
		{0, 4, 1 << 32, "\x00\x00\x00\x00"},
		{20, 1, -1, "\xff"},
		{20, 4, -1, "\xff\xff\xff\xff"},
		{20, 4, -2, "\xff\xff\xff\xfe"},
		{20, 2, -258, "\xfe\xfe"},
		{20, 4, math.MinInt, "\x00\x00\x00\x00"},
		{20, 4, math.MaxInt, "\xff\xff\xff\xff"},
	} {
		want := filled()
		for i := range len(c.want) {
			want[c.at+i] = c.want[i]
		}
		if got := page.Set(filled(), c.at, c.size, c.n); got != want {
			t.Errorf("Set at %d of %d in %d bytes: %v", c.at, c.n, c.size, got)
		}
	}
}

// P2.1: each place and each size, right ones and others; what isn't set stays.
func TestSetAndGetEverywhere(t *testing.T) {
	for _, start := range []api.Page{{}, filled()} {
		for _, at := range ints() {
			for _, size := range ints() {
				for _, n := range numbers() {
					want := start
					number := 0
					if 1 <= size && size <= 4 && isIn(at, size) {
						number = lowest(n, size)
						rest := number
						for i := size - 1; i >= 0; i-- {
							want[at+i] = byte(rest % 256)
							rest /= 256
						}
					}
					got := page.Set(start, at, size, n)
					if got != want {
						t.Fatalf("Set at %d, size %d, of %d: %v, not %v", at, size, n, got, want)
					}
					if g := page.Get(got, at, size); g != number {
						t.Fatalf("Get at %d, size %d, behind Set of %d: %d, not %d", at, size, n, g, number)
					}
				}
			}
		}
	}
}

// P2.1
func TestGetKnown(t *testing.T) {
	p := filled()
	p[10], p[11], p[12], p[13] = 0xFF, 0xFE, 0xFD, 0xFC
	for _, c := range []struct{ at, size, want int }{
		{0, 1, 1},
		{0, 2, 0x0102},
		{0, 3, 0x010203},
		{0, 4, 0x01020304},
		{60, 4, 0x3D3E3F40},
		{61, 3, 0x3E3F40},
		{62, 2, 0x3F40},
		{63, 1, 0x40},
		{10, 1, 255},
		{10, 2, 65534},
		{10, 4, 0xFFFEFDFC},
		{61, 4, 0},
		{62, 3, 0},
		{63, 2, 0},
		{64, 1, 0},
		{-1, 1, 0},
		{-1, 4, 0},
		{-4, 4, 0},
		{0, 0, 0},
		{0, -1, 0},
		{0, 5, 0},
		{0, 8, 0},
		{5, -4, 0},
		{math.MaxInt, 1, 0},
		{math.MaxInt, 4, 0},
		{math.MaxInt - 3, 4, 0},
		{math.MinInt, 4, 0},
		{0, math.MaxInt, 0},
		{0, math.MinInt, 0},
		{math.MinInt, math.MinInt, 0},
	} {
		if got := page.Get(p, c.at, c.size); got != c.want {
			t.Errorf("Get at %d, size %d: %#x, not %#x", c.at, c.size, got, c.want)
		}
	}
}

// P2.1: what Get tells stands in the bytes, whatever they are.
func TestGetOfAnyBytes(t *testing.T) {
	for _, p := range pages(20, 3) {
		for size := 1; size <= 4; size++ {
			for at := 0; at+size <= api.PageSize; at++ {
				want, times := 0, 1
				for i := size - 1; i >= 0; i-- {
					want += times * int(p[at+i])
					times *= 256
				}
				if got := page.Get(p, at, size); got != want {
					t.Fatalf("Get at %d, size %d: %d, not %d", at, size, got, want)
				}
				if page.Set(p, at, size, want) != p {
					t.Fatalf("Set at %d, size %d, of what stands there changes the page", at, size)
				}
			}
		}
	}
}

// P2.1
func TestTextKnown(t *testing.T) {
	p := page.SetText(api.Page{}, 10, "abc")
	for _, c := range []struct {
		at, size int
		want     string
	}{
		{10, 3, "abc"},
		{9, 5, "\x00abc\x00"},
		{11, 1, "b"},
		{10, 0, ""},
		{0, 64, strings.Repeat("\x00", 10) + "abc" + strings.Repeat("\x00", 51)},
		{0, 65, ""},
		{1, 64, ""},
		{63, 1, "\x00"},
		{63, 2, ""},
		{64, 0, ""},
		{64, 1, ""},
		{65, 0, ""},
		{65, -1, ""},
		{11, -1, ""},
		{-1, 1, ""},
		{-1, 12, ""},
		{-1, 0, ""},
		{-64, 64, ""},
		{math.MaxInt, 1, ""},
		{math.MaxInt, math.MaxInt, ""},
		{10, math.MaxInt, ""},
		{10, math.MinInt, ""},
		{math.MinInt, 3, ""},
		{math.MinInt, math.MinInt, ""},
	} {
		if got := page.Text(p, c.at, c.size); got != c.want {
			t.Errorf("Text at %d, size %d: %q, not %q", c.at, c.size, got, c.want)
		}
	}
}

// P2.1: each place and each size, right ones and others.
func TestTextEverywhere(t *testing.T) {
	p := filled()
	for _, at := range ints() {
		for _, size := range ints() {
			want := ""
			if isIn(at, size) {
				for i := range size {
					want += string([]byte{p[at+i]})
				}
			}
			if got := page.Text(p, at, size); got != want {
				t.Fatalf("Text at %d, size %d: %q, not %q", at, size, got, want)
			}
		}
	}
}

// P2.1: each place and each length, right ones and others; what isn't set stays.
func TestSetTextEverywhere(t *testing.T) {
	for _, start := range []api.Page{{}, filled()} {
		for _, at := range ints() {
			for _, n := range []int{0, 1, 2, 3, 4, 5, 31, 32, 33, 62, 63, 64, 65, 66, 128, 4096} {
				s := noise(n, uint32(n))
				want := start
				if isIn(at, n) {
					for i := range n {
						want[at+i] = s[i]
					}
				}
				got := page.SetText(start, at, s)
				if got != want {
					t.Fatalf("SetText at %d of %d bytes: %v, not %v", at, n, got, want)
				}
				if back := page.Text(got, at, n); isIn(at, n) && back != s {
					t.Fatalf("Text at %d behind SetText of %q: %q", at, s, back)
				}
			}
		}
	}
}

// P2.1
func TestSetTextOfSpecialBytes(t *testing.T) {
	for _, s := range []string{"\x00", "\x00\x00\x00", "\xff", "a\x00b", "\u00e4\u20ac", "\xc3\x28\xff\xfe"} {
		p := page.SetText(filled(), 7, s)
		want := filled()
		for i := range len(s) {
			want[7+i] = s[i]
		}
		if p != want {
			t.Errorf("SetText of %q: %v", s, p)
		}
		if got := page.Text(p, 7, len(s)); got != s {
			t.Errorf("Text behind SetText of %q: %q", s, got)
		}
	}
}

// P2.1
func TestSplitAtEachLength(t *testing.T) {
	for n := range 6*api.PageSize + 2 {
		s := noise(n, uint32(n))
		l := page.Split(s)
		if len(l) != (n+63)/64 {
			t.Fatalf("Split of %d bytes: %d pages", n, len(l))
		}
		for i, p := range l {
			for j, c := range p {
				want := byte(0)
				if i*64+j < n {
					want = s[i*64+j]
				}
				if c != want {
					t.Fatalf("Split of %d bytes: page %d, byte %d is %d, not %d", n, i, j, c, want)
				}
			}
		}
	}
}

// P2.1
func TestSplitOfNothing(t *testing.T) {
	if l := page.Split(""); len(l) != 0 {
		t.Errorf("Split of nothing: %v", l)
	}
	if l := page.Split("\x00"); len(l) != 1 || l[0] != (api.Page{}) {
		t.Errorf("Split of a byte that is 0: %v", l)
	}
}

// P2.1
func TestJoinOfWhatIsSplit(t *testing.T) {
	for n := range 6*api.PageSize + 2 {
		s := noise(n, uint32(n)+5)
		want := s + strings.Repeat("\x00", (64-n%64)%64)
		if got := page.Join(page.Split(s)...); got != want {
			t.Fatalf("Join of Split of %d bytes: %q, not %q", n, got, want)
		}
	}
	for _, n := range []int{0, 1, 2, 3, api.MaxPages, 2000} {
		l := pages(n, uint32(n))
		if got := page.Split(page.Join(l...)); !slices.Equal(got, l) {
			t.Errorf("Split of Join of %d pages is other pages", n)
		}
	}
}

// P2.1
func TestJoinKnown(t *testing.T) {
	var none []api.Page
	if page.Join() != "" || page.Join(none...) != "" || page.Join([]api.Page{}...) != "" {
		t.Error("Join of no pages isn't empty")
	}
	if got := page.Join(api.Page{}); got != strings.Repeat("\x00", 64) {
		t.Errorf("Join of a zero page: %q", got)
	}
	p, q := page.SetText(api.Page{}, 0, "x"), page.SetText(api.Page{}, 63, "y")
	zeros := strings.Repeat("\x00", 63)
	if got := page.Join(p, q); got != "x"+zeros+zeros+"y" {
		t.Errorf("Join of two pages: %q", got)
	}
	if got := page.Join(q, p); got != zeros+"yx"+zeros {
		t.Errorf("Join of two pages, the other way round: %q", got)
	}
}

// P2.1
func TestZero(t *testing.T) {
	var none []api.Page
	if !page.Zero() || !page.Zero(none...) || !page.Zero([]api.Page{}...) {
		t.Error("no bytes aren't all 0")
	}
	for n := 1; n <= 5; n++ {
		l := make([]api.Page, n)
		if !page.Zero(l...) {
			t.Errorf("%d zero pages aren't all 0", n)
		}
		for i := range l {
			for at := range api.PageSize {
				for _, c := range []byte{1, 128, 255} {
					l[i][at] = c
					if page.Zero(l...) {
						t.Errorf("%d pages, byte %d of page %d is %d: all 0", n, at, i, c)
					}
				}
				l[i][at] = 0
			}
		}
	}
	if page.Zero(pages(3, 8)...) {
		t.Error("pages without zeros are all 0")
	}
}

// Rule 2 of the document: no argument is written into, and what is answered is new memory.
func TestArgumentsStayAsTheyAre(t *testing.T) {
	p := filled()
	page.Set(p, 3, 4, 0)
	page.SetText(p, 3, "abc")
	if p != filled() {
		t.Error("a page was written into")
	}
	l := pages(4, 6)
	joined := page.Join(l...)
	page.Zero(l...)
	if !slices.Equal(l, pages(4, 6)) {
		t.Error("a list of pages was written into")
	}
	l[0][0] ^= 0xFF
	if joined != page.Join(pages(4, 6)...) {
		t.Error("a joined text shares memory with the pages")
	}
	s := noise(130, 4)
	first, second := page.Split(s), page.Split(s)
	first[0][0] ^= 0xFF
	if s != noise(130, 4) || !slices.Equal(second, page.Split(s)) {
		t.Error("split pages share memory with the text, or with each other")
	}
}
