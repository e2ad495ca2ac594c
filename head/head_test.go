package head_test

import (
	"math"
	"slices"
	"testing"

	"narthex/api"
	"narthex/head"
)

// chance is numbers that look like chance, the same in each run.
type chance uint32

func (c *chance) below(n int) int {
	*c = *c*1664525 + 1013904223
	return int(*c>>8) % n
}

func (c *chance) byte() byte { return byte(c.below(256)) }

func (c *chance) page() (p api.Page) {
	for i := range p {
		p[i] = c.byte()
	}
	return p
}

// pageOf is a head's page, byte by byte, without the packages that are asked; only of a right head.
func pageOf(h head.Head) (p api.Page) {
	seq, count, sum := uint32(h.Seq), uint16(h.Count), h.Sum
	p[0], p[1], p[2], p[3] = byte(seq>>24), byte(seq>>16), byte(seq>>8), byte(seq)
	if h.Live {
		p[4] = 1
	}
	p[5], p[6] = byte(count>>8), byte(count)
	p[7], p[8], p[9], p[10] = byte(sum>>24), byte(sum>>16), byte(sum>>8), byte(sum)
	p[60], p[61], p[62], p[63] = p[0], p[1], p[2], p[3]
	return p
}

func number(l ...byte) int {
	n := 0
	for _, c := range l {
		n = n*256 + int(c)
	}
	return n
}

// headOf tells of a page what Decode must tell, byte by byte: nothing is written and held against it.
func headOf(p api.Page) (head.Head, bool) {
	for _, c := range p[11:60] {
		if c != 0 {
			return head.Head{}, false
		}
	}
	seq, count, sum := number(p[0:4]...), number(p[5:7]...), number(p[7:11]...)
	if seq != number(p[60:64]...) {
		return head.Head{}, false
	}
	switch {
	case p[4] == 0 && count == 0 && sum == 0:
		return head.Head{Seq: seq}, true
	case p[4] == 1 && count > 0 && count < 513:
		return head.Head{Seq: seq, Live: true, Count: count, Sum: uint32(sum)}, true
	}
	return head.Head{}, false
}

func rightSeqs() []int {
	return []int{0, 1, 2, 255, 256, 257, 0xFFFF, 0x10000, 0xFFFFFF, 0x1000000, 0x01020304, 0x7FFFFFFF, 0x80000000, 0x80000001, 0xFEFEFEFE, 1<<32 - 2, 1<<32 - 1}
}

// wrongSeqs are beyond both edges; the lowest four bytes of some are those of a right one.
func wrongSeqs() []int {
	return []int{-1, -2, -256, -1 << 31, -1 << 32, -1<<32 + 1, 1 << 32, 1<<32 + 1, 1<<33 - 1, 1 << 40, math.MinInt, math.MinInt + 1, math.MaxInt - 1, math.MaxInt}
}

func rightCounts() []int { return []int{1, 2, 3, 32, 255, 256, 257, 258, 510, 511, 512} }

// wrongCounts are those of no Live head; the lowest two bytes of some are those of a right one.
func wrongCounts() []int {
	return []int{0, -1, -2, -512, -65535, 513, 514, 1023, 1024, 65535, 65536, 65537, 65536 + 512, 1<<32 + 1, math.MinInt, math.MinInt + 1, math.MaxInt}
}

func sums() []uint32 {
	return []uint32{0, 1, 255, 256, 0x01020304, 0x7FFFFFFF, 0x80000000, 0xAABBCCDD, 0xFFFEFFFE, 0xFFFFFFFE, 0xFFFFFFFF}
}

func rightHeads() []head.Head {
	var l []head.Head
	for _, seq := range rightSeqs() {
		l = append(l, head.Head{Seq: seq})
		for _, count := range rightCounts() {
			for _, sum := range sums() {
				l = append(l, head.Head{Seq: seq, Live: true, Count: count, Sum: sum})
			}
		}
	}
	return l
}

// wrongHeads have one thing, or two, that isn't right.
func wrongHeads() []head.Head {
	var l []head.Head
	for _, seq := range wrongSeqs() {
		l = append(l, head.Head{Seq: seq})
		for _, count := range slices.Concat(rightCounts(), wrongCounts()) {
			l = append(l, head.Head{Seq: seq, Live: true, Count: count, Sum: 7})
		}
	}
	for _, seq := range slices.Concat(rightSeqs(), wrongSeqs()) {
		for _, sum := range sums() {
			for _, count := range wrongCounts() {
				l = append(l, head.Head{Seq: seq, Live: true, Count: count, Sum: sum})
			}
			for _, count := range slices.Concat(rightCounts(), wrongCounts()) {
				if count != 0 || sum != 0 {
					l = append(l, head.Head{Seq: seq, Count: count, Sum: sum})
				}
			}
		}
	}
	return l
}

func mustEncode(t *testing.T, h head.Head) api.Page {
	t.Helper()
	p, e := head.Encode(h)
	if e != api.OK {
		t.Fatalf("Encode of %+v: %d", h, e)
	}
	return p
}

// wantDecode holds Decode against what a page's bytes say, and tells whether the page is whole.
func wantDecode(t *testing.T, p api.Page) bool {
	t.Helper()
	want, whole := headOf(p)
	if got, ok := head.Decode(p); got != want || ok != whole {
		t.Fatalf("Decode of %v: %+v and %v, not %+v and %v", p, got, ok, want, whole)
	}
	return whole
}

// P4.1
func TestRightOnBothSidesOfEachEdge(t *testing.T) {
	for _, c := range []struct {
		h    head.Head
		want bool
	}{
		{head.Head{}, true},
		{head.Head{Seq: -1}, false},
		{head.Head{Seq: 1<<32 - 1}, true},
		{head.Head{Seq: 1 << 32}, false},
		{head.Head{Seq: math.MaxInt}, false},
		{head.Head{Seq: math.MinInt}, false},
		{head.Head{Live: true}, false},
		{head.Head{Live: true, Count: -1}, false},
		{head.Head{Live: true, Count: 1}, true},
		{head.Head{Live: true, Count: 512}, true},
		{head.Head{Live: true, Count: 513}, false},
		{head.Head{Live: true, Count: 1, Sum: 0xFFFFFFFF}, true},
		{head.Head{Live: true, Count: 512, Sum: 0xFFFFFFFF, Seq: 1<<32 - 1}, true},
		{head.Head{Live: true, Count: 512, Sum: 0xFFFFFFFF, Seq: 1 << 32}, false},
		{head.Head{Live: true, Count: 1, Seq: -1}, false},
		{head.Head{Live: true, Count: 0, Sum: 1}, false},
		{head.Head{Count: 1}, false},
		{head.Head{Count: -1}, false},
		{head.Head{Count: 512}, false},
		{head.Head{Count: 513}, false},
		{head.Head{Sum: 1}, false},
		{head.Head{Sum: 0xFFFFFFFF}, false},
		{head.Head{Count: 1, Sum: 1}, false},
	} {
		if got := head.Right(c.h); got != c.want {
			t.Errorf("Right of %+v: %v", c.h, got)
		}
	}
}

// P4.1: each Count of a Live head, and beyond.
func TestRightOfEachCount(t *testing.T) {
	for count := -70000; count <= 70000; count++ {
		if got := head.Right(head.Head{Live: true, Count: count}); got != (count > 0 && count < 513) {
			t.Fatalf("Live, Count %d: right is %v", count, got)
		}
		if got := head.Right(head.Head{Count: count}); got != (count == 0) {
			t.Fatalf("not Live, Count %d: right is %v", count, got)
		}
	}
}

// P4.1
func TestEncodeKnown(t *testing.T) {
	for _, c := range []struct {
		h    head.Head
		want map[int]byte // the bytes that aren't 0
	}{
		{head.Head{}, map[int]byte{}},
		{head.Head{Seq: 1}, map[int]byte{3: 1, 63: 1}},
		{head.Head{Seq: 0x01020304}, map[int]byte{0: 1, 1: 2, 2: 3, 3: 4, 60: 1, 61: 2, 62: 3, 63: 4}},
		{head.Head{Seq: 1<<32 - 1}, map[int]byte{0: 255, 1: 255, 2: 255, 3: 255, 60: 255, 61: 255, 62: 255, 63: 255}},
		{head.Head{Live: true, Count: 1}, map[int]byte{4: 1, 6: 1}},
		{head.Head{Live: true, Count: 512}, map[int]byte{4: 1, 5: 2}},
		{head.Head{Live: true, Count: 258, Sum: 0x0A0B0C0D}, map[int]byte{4: 1, 5: 1, 6: 2, 7: 10, 8: 11, 9: 12, 10: 13}},
		{head.Head{Seq: 5, Live: true, Count: 511, Sum: 0xFFFFFFFF}, map[int]byte{3: 5, 4: 1, 5: 1, 6: 255, 7: 255, 8: 255, 9: 255, 10: 255, 63: 5}},
	} {
		var want api.Page
		for at, b := range c.want {
			want[at] = b
		}
		if got, e := head.Encode(c.h); got != want || e != api.OK {
			t.Errorf("Encode of %+v: %v and %d, not %v", c.h, got, e, want)
		}
		if got, ok := head.Decode(want); got != c.h || !ok {
			t.Errorf("Decode of the page of %+v: %+v and %v", c.h, got, ok)
		}
	}
}

// P4.1: each right head's page, and back.
func TestRightHeadsThereAndBack(t *testing.T) {
	for _, h := range rightHeads() {
		if !head.Right(h) {
			t.Fatalf("%+v isn't right", h)
		}
		p, e := head.Encode(h)
		if p != pageOf(h) || e != api.OK {
			t.Fatalf("Encode of %+v: %v and %d, not %v", h, p, e, pageOf(h))
		}
		if back, ok := head.Decode(p); back != h || !ok {
			t.Fatalf("Decode of the page of %+v: %+v and %v", h, back, ok)
		}
	}
}

// P4.1
func TestWrongHeadsHaveNoPage(t *testing.T) {
	for _, h := range wrongHeads() {
		if head.Right(h) {
			t.Fatalf("%+v is right", h)
		}
		if p, e := head.Encode(h); p != (api.Page{}) || e != api.EINVAL {
			t.Fatalf("Encode of %+v: %v and %d", h, p, e)
		}
	}
}

// P4.1
func TestDecodeOfPagesThatAreNotWhole(t *testing.T) {
	live := head.Head{Seq: 0x01020304, Live: true, Count: 258, Sum: 0xAABBCCDD}
	done := head.Head{Seq: 0x01020304}
	for _, c := range []struct {
		what string
		of   head.Head
		set  map[int]byte
	}{
		{"byte 4 is 2", live, map[int]byte{4: 2}},
		{"byte 4 is 255", live, map[int]byte{4: 255}},
		{"byte 4 is 2, no changes", done, map[int]byte{4: 2}},
		{"byte 4 is 3, no changes", done, map[int]byte{4: 3}},
		{"Live without changes", done, map[int]byte{4: 1}},
		{"not Live, with changes", live, map[int]byte{4: 0}},
		{"not Live, Count 1", done, map[int]byte{6: 1}},
		{"not Live, Count 256", done, map[int]byte{5: 1}},
		{"not Live, Sum 1", done, map[int]byte{10: 1}},
		{"not Live, a great Sum", done, map[int]byte{7: 128}},
		{"Count 0", live, map[int]byte{5: 0, 6: 0}},
		{"Count 513", live, map[int]byte{5: 2, 6: 1}},
		{"Count 514", live, map[int]byte{5: 2, 6: 2}},
		{"Count 768", live, map[int]byte{5: 3, 6: 0}},
		{"Count 65535", live, map[int]byte{5: 255, 6: 255}},
		{"Seq unlike at its first byte", live, map[int]byte{0: 2}},
		{"Seq unlike at its last byte", live, map[int]byte{3: 5}},
		{"the other Seq unlike at its first byte", live, map[int]byte{60: 2}},
		{"the other Seq unlike at its last byte", live, map[int]byte{63: 5}},
		{"Seq unlike, not Live", done, map[int]byte{63: 5}},
		{"the Seqs' bytes in another order", done, map[int]byte{60: 4, 61: 3, 62: 2, 63: 1}},
		{"the first byte behind Sum", live, map[int]byte{11: 1}},
		{"a byte in the middle", live, map[int]byte{32: 128}},
		{"the last byte ahead of Seq", live, map[int]byte{59: 255}},
		{"the first byte behind Sum, not Live", done, map[int]byte{11: 1}},
		{"the last byte ahead of Seq, not Live", done, map[int]byte{59: 1}},
	} {
		p := pageOf(c.of)
		for at, b := range c.set {
			p[at] = b
		}
		if h, ok := head.Decode(p); h != (head.Head{}) || ok {
			t.Errorf("%s: %+v and %v", c.what, h, ok)
		}
	}
}

// P4.1: each byte of a page, with each other byte in its place; and a Seq that is another one at both ends.
func TestDecodeWithOneOtherByte(t *testing.T) {
	for _, h := range []head.Head{
		{}, {Seq: 1}, {Seq: 1<<32 - 1}, {Seq: 0x01020304},
		{Live: true, Count: 1}, {Seq: 9, Live: true, Count: 512}, {Seq: 9, Live: true, Count: 512, Sum: 0xFFFFFFFF},
		{Seq: 0x01020304, Live: true, Count: 258, Sum: 0xAABBCCDD}, {Seq: 1<<32 - 1, Live: true, Count: 256, Sum: 1},
	} {
		start := pageOf(h)
		for at := range start {
			for b := range 256 {
				p := start
				p[at] = byte(b)
				whole := wantDecode(t, p)
				if (at < 4 || at > 10) && p != start && whole {
					t.Fatalf("%+v, byte %d is %d: whole", h, at, b)
				}
				if at < 4 {
					p[60+at] = byte(b)
					if !wantDecode(t, p) {
						t.Fatalf("%+v, bytes %d and %d are %d: not whole", h, at, 60+at, b)
					}
				}
			}
		}
	}
}

// P4.1: each Count that two bytes hold, with and without each other thing that hangs on it.
func TestDecodeOfEachCount(t *testing.T) {
	for count := range 65536 {
		for live := range 3 {
			for _, sum := range []byte{0, 1} {
				var p api.Page
				p[4], p[5], p[6], p[7] = byte(live), byte(count>>8), byte(count), sum
				wantDecode(t, p)
			}
		}
	}
}

// P4.1: pages that are whole but for a few bytes, or aren't so in any way; what is whole is written again as it is.
func TestDecodeOfAnyBytes(t *testing.T) {
	c := chance(4)
	whole := 0
	for range 200000 {
		p := api.Page{0, 0, 0, c.byte(), byte(c.below(2)), byte(c.below(3)), byte(c.below(2))}
		p[63] = p[3]
		for range c.below(3) {
			p[c.below(64)] = byte(c.below(3))
		}
		if wantDecode(t, p) {
			whole++
			h, _ := head.Decode(p)
			if mustEncode(t, h) != p {
				t.Fatalf("%v is whole, and the page of another head", p)
			}
		}
		wantDecode(t, c.page())
	}
	if whole < 10000 || whole > 190000 {
		t.Errorf("%d pages were whole: the test asks for too few of a kind", whole)
	}
}

// P4.1: the example.
func TestDecodeOfTheZeroPage(t *testing.T) {
	if h, ok := head.Decode(api.Page{}); h != (head.Head{}) || !ok {
		t.Errorf("%+v and %v", h, ok)
	}
}

// ends is a page with these numbers at its ends, and the byte between everywhere between.
func ends(first, last uint32, between byte) (p api.Page) {
	for i := range p {
		p[i] = between
	}
	for i := range 4 {
		p[i] = byte(first >> (24 - 8*i))
		p[60+i] = byte(last >> (24 - 8*i))
	}
	return p
}

// P4.1
func TestNextKnown(t *testing.T) {
	var none []api.Page
	if head.Next() != 0 || head.Next(none...) != 0 || head.Next([]api.Page{}...) != 0 {
		t.Error("Next of no pages isn't 0")
	}
	nine, eleven := pageOf(head.Head{Seq: 9}), pageOf(head.Head{Seq: 11, Live: true, Count: 512, Sum: 0xFFFFFFFF})
	for _, c := range []struct {
		l    []api.Page
		want int
	}{
		{[]api.Page{{}}, 1},
		{[]api.Page{{}, {}, {}}, 1},
		{[]api.Page{nine}, 10},
		{[]api.Page{eleven}, 12},
		{[]api.Page{nine, eleven}, 12},
		{[]api.Page{eleven, nine}, 12},
		{[]api.Page{nine, nine}, 10},
		{[]api.Page{nine, eleven, {}}, 12},
		{[]api.Page{pageOf(head.Head{Seq: 1<<32 - 1})}, 1 << 32},
		{[]api.Page{nine, pageOf(head.Head{Seq: 1<<32 - 1}), eleven}, 1 << 32},
		{[]api.Page{ends(5, 7, 0)}, 8},
		{[]api.Page{ends(7, 5, 0)}, 8},
		{[]api.Page{ends(7, 0, 0)}, 8},
		{[]api.Page{ends(0, 7, 0)}, 8},
		{[]api.Page{ends(0, 0, 255)}, 1},
		{[]api.Page{ends(3, 2, 255)}, 4},
		{[]api.Page{ends(2, 3, 255)}, 4},
		{[]api.Page{ends(1<<32-1, 0, 0)}, 1 << 32},
		{[]api.Page{ends(0, 1<<32-1, 0)}, 1 << 32},
		{[]api.Page{ends(1<<32-2, 0, 9)}, 1<<32 - 1},
		{[]api.Page{ends(0x80000000, 0x7FFFFFFF, 0)}, 0x80000001},
		{[]api.Page{ends(0x7FFFFFFF, 0x80000000, 0)}, 0x80000001},
		{[]api.Page{ends(0x01000000, 0x00FFFFFF, 0)}, 0x01000001},
		{[]api.Page{ends(0x000000FF, 0x00000100, 0)}, 0x101},
		{[]api.Page{ends(4, 1, 0), ends(2, 3, 0)}, 5},
		{[]api.Page{ends(1, 4, 0), ends(3, 2, 0)}, 5},
		{[]api.Page{ends(2, 3, 0), ends(4, 1, 0)}, 5},
		{[]api.Page{ends(3, 2, 0), ends(1, 4, 0)}, 5},
	} {
		if got := head.Next(c.l...); got != c.want {
			t.Errorf("Next of %v: %d, not %d", c.l, got, c.want)
		}
	}
}

// P4.1: the greatest number at each end of each page of lists of each length, the others below it, whole or not.
func TestNextWhereverTheGreatestStands(t *testing.T) {
	c := chance(6)
	for _, n := range []int{1, 2, 3, 7, 64, api.MaxPages + 1} {
		l := make([]api.Page, n)
		for i := range l {
			l[i] = ends(uint32(c.below(1000)), uint32(c.below(1000)), c.byte())
		}
		for i := range l {
			kept := l[i]
			for _, greatest := range []uint32{1000, 0x80000000, 1<<32 - 1} {
				for _, p := range []api.Page{ends(greatest, 3, 1), ends(3, greatest, 1), pageOf(head.Head{Seq: int(greatest)})} {
					l[i] = p
					if got := head.Next(l...); got != int(greatest)+1 {
						t.Fatalf("%d in page %d of %d: Next is %d", greatest, i, n, got)
					}
				}
			}
			l[i] = kept
		}
	}
}

// P4.1: what Next tells stands in the bytes, whatever they are.
func TestNextOfAnyBytes(t *testing.T) {
	c := chance(8)
	for range 3000 {
		l := make([]api.Page, c.below(6))
		want := 0
		for i := range l {
			l[i] = c.page()
			want = max(want, number(l[i][0:4]...)+1, number(l[i][60:64]...)+1)
		}
		if got := head.Next(l...); got != want {
			t.Fatalf("Next of %v: %d, not %d", l, got, want)
		}
	}
}

// mixedSeqs have bytes in common at the beginning, at the end, or between, or none.
func mixedSeqs() []int {
	return []int{0, 1, 2, 255, 256, 257, 0xFFFF, 0x10000, 0x10001, 0xFFFFFF, 0x1000000, 0x1000001, 0x1010101,
		0x01020304, 0x01020305, 0x01020404, 0x01030304, 0x02020304, 0x04030201, 0x01020403, 0x02010304,
		0x7FFFFFFF, 0x80000000, 0xFFFFFF00, 0xFF000000, 0xFF0000FF, 1<<32 - 2, 1<<32 - 1}
}

func mixedHeads() []head.Head {
	var l []head.Head
	for _, seq := range mixedSeqs() {
		l = append(l,
			head.Head{Seq: seq},
			head.Head{Seq: seq, Live: true, Count: 1},
			head.Head{Seq: seq, Live: true, Count: 256, Sum: 1},
			head.Head{Seq: seq, Live: true, Count: 511, Sum: 0xFFFFFFFF},
			head.Head{Seq: seq, Live: true, Count: 512, Sum: 0x01020304})
	}
	return l
}

// mixed is the first n bytes of one page, and the other's behind them.
func mixed(one, other api.Page, n int) api.Page {
	p := other
	for i := range n {
		p[i] = one[i]
	}
	return p
}

// wantOneOfTwo holds what Decode tells of a mixed page against the two heads, as P4.2 says it.
func wantOneOfTwo(t *testing.T, a, b head.Head, p api.Page, n int) {
	t.Helper()
	h, ok := head.Decode(p)
	if ok && h != a && h != b {
		t.Fatalf("%d bytes of %+v, then %+v: a third head, %+v", n, a, b, h)
	}
	if ok && p != pageOf(h) {
		t.Fatalf("%d bytes of %+v, then %+v: whole, and not the page of %+v", n, a, b, h)
	}
	if !ok && (h != head.Head{} || p == pageOf(a) || p == pageOf(b)) {
		t.Fatalf("%d bytes of %+v, then %+v: not whole, though a head's page, or with %+v", n, a, b, h)
	}
}

// P4.2: each two heads, cut at every place.
func TestMixedPages(t *testing.T) {
	heads := mixedHeads()
	for _, a := range heads {
		pageA := mustEncode(t, a)
		for _, b := range heads {
			if a.Seq == b.Seq {
				continue
			}
			pageB := mustEncode(t, b)
			for n := range api.PageSize + 1 {
				p := mixed(pageA, pageB, n)
				wantOneOfTwo(t, a, b, p, n)
				if _, ok := head.Decode(p); ok && 4 <= n && n <= 60 {
					t.Fatalf("%d bytes of %+v, then %+v: whole, with the Seqs of both", n, a, b)
				}
			}
		}
	}
}

// P4.2: heads that look like chance; the other one's Seq is the next one, or near, or anywhere.
func TestMixedPagesOfAnyHeads(t *testing.T) {
	c := chance(10)
	anyHead := func(seq int) head.Head {
		if c.below(2) == 0 {
			return head.Head{Seq: seq}
		}
		return head.Head{Seq: seq, Live: true, Count: 1 + c.below(512), Sum: uint32(number(c.byte(), c.byte(), c.byte(), c.byte()))}
	}
	for range 4000 {
		seq := number(c.byte(), c.byte(), c.byte(), c.byte())
		for _, unlike := range []int{1, 1 << 8, 1 << 16, 1 << 24, 1 + c.below(1<<24)} {
			a, b := anyHead(seq), anyHead((seq+unlike)%(1<<32))
			pageA, pageB := mustEncode(t, a), mustEncode(t, b)
			for n := range api.PageSize + 1 {
				wantOneOfTwo(t, a, b, mixed(pageA, pageB, n), n)
				wantOneOfTwo(t, b, a, mixed(pageB, pageA, n), n)
			}
		}
	}
}

// P4.1: of two heads with one Seq a mixed page may be a third one's, as its bytes say: P4.2 needs unlike ones.
func TestMixedPagesOfOneSeq(t *testing.T) {
	third := 0
	for _, a := range mixedHeads() {
		for _, b := range mixedHeads() {
			if a.Seq != b.Seq {
				continue
			}
			for n := range api.PageSize + 1 {
				p := mixed(pageOf(a), pageOf(b), n)
				if wantDecode(t, p) && p != pageOf(a) && p != pageOf(b) {
					third++
				}
			}
		}
	}
	if third == 0 {
		t.Error("no mixed page was a third head's: the test asks for nothing")
	}
}

// Rule 2 of the document: no argument is written into.
func TestArgumentsStayAsTheyAre(t *testing.T) {
	l := []api.Page{ends(4, 1, 7), {}, pageOf(head.Head{Seq: 3})}
	kept := slices.Clone(l)
	head.Next(l...)
	for _, p := range l {
		head.Decode(p)
	}
	if !slices.Equal(l, kept) {
		t.Error("a list of pages was written into")
	}
}
