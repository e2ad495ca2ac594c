package sum_test

import (
	"slices"
	"strings"
	"testing"

	"narthex/api"
	"narthex/sum"
)

// closedForm works the sum out another way than the program: a is all bytes together, b counts each byte once for itself and once for each byte behind it.
func closedForm(s string) uint32 {
	var a, b uint64
	for i := range len(s) {
		a += uint64(s[i])
		b += uint64(s[i]) * uint64(len(s)-i)
	}
	return uint32(b%65535<<16 | a%65535)
}

// noise is bytes that look like chance, the same in each run.
func noise(n int, seed uint32) []byte {
	out := make([]byte, n)
	for i := range out {
		seed = seed*1664525 + 1013904223
		out[i] = byte(seed >> 24)
	}
	return out
}

func texts() []string {
	l := []string{"", "a", "abc", "\x00", "\x00\x00\x00", "\xff", "a\x00b", "\u00e4\u20ac", "\xc3\x28\xff\xfe"}
	for _, n := range []int{1, 63, 64, 65, 255, 256, 257, 258, 512, 4096, 70000} {
		l = append(l, string(noise(n, uint32(n))), strings.Repeat("\xff", n))
	}
	return l
}

// P1.1
func TestSumKnown(t *testing.T) {
	for _, c := range []struct {
		text string
		b, a uint32
	}{
		{"", 0, 0},
		{"\x00", 0, 0},
		{"\x01", 1, 1},
		{"\x01\x00", 2, 1},
		{"\x00\x01", 1, 1},
		{"\xff", 255, 255},
		{"abc", 586, 294},
		{strings.Repeat("\xff", 256), 128 * 257 * 255 % 65535, 65280},
		{strings.Repeat("\xff", 257), 129 * 257 * 255 % 65535, 0},
		{strings.Repeat("\xff", 256) + "\xfe", (128*257*255 + 65534) % 65535, 65534},
		{strings.Repeat("\xff", 257) + "\x01", 1, 1},
		{"\xff" + strings.Repeat("\x00", 256), 0, 255},
	} {
		if got, want := sum.Sum(c.text), c.b<<16|c.a; got != want {
			t.Errorf("Sum(%q) = %d:%d, not %d:%d", c.text, got>>16, got&0xFFFF, c.b, c.a)
		}
	}
}

// P1.1
func TestSumIsWhatIsSaid(t *testing.T) {
	for _, s := range texts() {
		if got := sum.Sum(s); got != closedForm(s) {
			t.Errorf("Sum of %d bytes = %#x, not %#x", len(s), got, closedForm(s))
		}
	}
}

// P1.1: a and b stay below 65535, at each length, also where they pass it.
func TestSumAtEachLength(t *testing.T) {
	ones := strings.Repeat("\x01", 1200) // b passes 65535 from 362 bytes on
	full := strings.Repeat("\xff", 1200)
	for n := range 1200 {
		for _, s := range []string{ones[:n], full[:n]} {
			got := sum.Sum(s)
			if got != closedForm(s) {
				t.Fatalf("Sum of %d bytes = %#x, not %#x", n, got, closedForm(s))
			}
			if got&0xFFFF > 65534 || got>>16 > 65534 {
				t.Fatalf("Sum of %d bytes = %#x, which is no sum", n, got)
			}
		}
	}
}

// P1.1
func TestSumOfNothing(t *testing.T) {
	var none []string
	if sum.Sum() != 0 || sum.Sum(none...) != 0 || sum.Sum([]string{}...) != 0 || sum.Sum("") != 0 || sum.Sum("", "", "") != 0 {
		t.Error("the sum of no bytes isn't 0")
	}
}

// P1.1
func TestSumOfTextsThatAreCutAnywhere(t *testing.T) {
	whole := string(noise(130, 7))
	want := sum.Sum(whole)
	for i := range len(whole) + 1 {
		for j := i; j <= len(whole); j++ {
			if got := sum.Sum(whole[:i], whole[i:j], whole[j:]); got != want {
				t.Fatalf("cut at %d and %d: %#x, not %#x", i, j, got, want)
			}
		}
	}
	if got := sum.Sum(strings.Split(whole, "")...); got != want {
		t.Errorf("cut everywhere: %#x, not %#x", got, want)
	}
	if got := sum.Sum("", whole[:60], "", "", whole[60:], ""); got != want {
		t.Errorf("with empty texts between: %#x, not %#x", got, want)
	}
}

// P1.1
func TestSumOfTextsHangsOnTheirOrder(t *testing.T) {
	if sum.Sum("ab", "c") == sum.Sum("c", "ab") {
		t.Error("texts in another order have the same sum")
	}
}

// P1.1
func TestMoreGoesOnWithASum(t *testing.T) {
	whole := string(noise(700, 11)) + strings.Repeat("\xff", 300)
	want := closedForm(whole)
	for i := range len(whole) + 1 {
		half := i + (len(whole)-i)/2
		if got := sum.More(sum.Sum(whole[:i]), whole[i:half], whole[half:]); got != want {
			t.Fatalf("cut at %d: %#x, not %#x", i, got, want)
		}
	}
	if got := sum.More(sum.More(sum.More(0, "a"), "b"), "c"); got != sum.Sum("abc") {
		t.Errorf("More behind More: %#x", got)
	}
}

// P1.1
func TestMoreOfNothingIsTheSum(t *testing.T) {
	var none []string
	for _, s := range []uint32{0, 1, 1 << 16, 65534, 65534 << 16, 65534<<16 | 65534, sum.Sum("abc")} {
		if sum.More(s) != s || sum.More(s, none...) != s || sum.More(s, "") != s || sum.More(s, "", "") != s {
			t.Errorf("More(%#x) with no bytes is another sum", s)
		}
	}
}

// P1.1: a or b above 65534 is taken modulo 65535, each for itself, also if no bytes follow.
func TestMoreOfASumThatIsNone(t *testing.T) {
	for _, c := range []struct{ none, right uint32 }{
		{0x0000FFFF, 0},
		{0xFFFF0000, 0},
		{0xFFFFFFFF, 0},
		{0x1234FFFF, 0x12340000},
		{0xFFFF1234, 0x00001234},
		{0xFFFEFFFF, 0xFFFE0000},
		{0xFFFFFFFE, 0x0000FFFE},
	} {
		for _, l := range [][]string{nil, {""}, {"\x00"}, {"a"}, {"\xff", "\x01"}, texts()} {
			if got, want := sum.More(c.none, l...), sum.More(c.right, l...); got != want {
				t.Errorf("More(%#x) with %d texts = %#x, not %#x", c.none, len(l), got, want)
			}
		}
		if got := sum.More(c.none); got != c.right {
			t.Errorf("More(%#x) = %#x, not %#x", c.none, got, c.right)
		}
	}
}

// P1.1: from every a and every b the next byte leads where the chapter says.
func TestMoreFromEachHalf(t *testing.T) {
	for half := range uint32(1 << 16) {
		for _, other := range []uint32{0, 1, 65534, 65535} {
			for _, start := range [][2]uint32{{half, other}, {other, half}} {
				for _, c := range []byte{0, 1, 255} {
					a := (start[0]%65535 + uint32(c)) % 65535
					b := (start[1]%65535 + a) % 65535
					if got := sum.More(start[1]<<16|start[0], string([]byte{c})); got != b<<16|a {
						t.Fatalf("a %d, b %d, byte %d: %#x, not %#x", start[0], start[1], c, got, b<<16|a)
					}
				}
			}
		}
	}
}

func pages(n int, seed uint32) []api.Page {
	l := make([]api.Page, n)
	for i := range l {
		copy(l[i][:], noise(api.PageSize, seed+uint32(i)))
	}
	return l
}

func bytesOf(l []api.Page) string {
	var b strings.Builder
	for _, p := range l {
		b.Write(p[:])
	}
	return b.String()
}

// P1.1
func TestPages(t *testing.T) {
	for _, n := range []int{1, 2, 3, 31, api.MaxPages} {
		l := pages(n, uint32(n))
		if got, want := sum.Pages(l...), closedForm(bytesOf(l)); got != want {
			t.Errorf("Pages of %d pages = %#x, not %#x", n, got, want)
		}
	}
	var first, last api.Page
	first[0], last[63] = 1, 2
	if got := sum.Pages(first); got != 64<<16|1 {
		t.Errorf("a page whose first byte is 1: %#x", got)
	}
	if got := sum.Pages(last); got != 2<<16|2 {
		t.Errorf("a page whose last byte is 2: %#x", got)
	}
	if got := sum.Pages(first, last); got != 130<<16|3 {
		t.Errorf("both: %#x", got)
	}
	if sum.Pages(first, last) == sum.Pages(last, first) {
		t.Error("pages in another order have the same sum")
	}
}

// P1.1
func TestPagesOfNothing(t *testing.T) {
	var none []api.Page
	if sum.Pages() != 0 || sum.Pages(none...) != 0 || sum.Pages(api.Page{}) != 0 || sum.Pages(api.Page{}, api.Page{}) != 0 {
		t.Error("the sum of no pages, or of zero pages, isn't 0")
	}
}

// Rule 2 of the document: no argument is written into.
func TestListsStayAsTheyAre(t *testing.T) {
	l := texts()
	sum.Sum(l...)
	sum.More(5, l...)
	if !slices.Equal(l, texts()) {
		t.Error("a list of texts was written into")
	}
	p := pages(5, 3)
	sum.Pages(p...)
	if !slices.Equal(p, pages(5, 3)) {
		t.Error("a list of pages was written into")
	}
}

// P1.2
func TestAnotherByteIsAnotherSum(t *testing.T) {
	for _, text := range [][]byte{{0}, {255}, make([]byte, 300), noise(300, 5), []byte(strings.Repeat("\xff", 300))} {
		was := sum.Sum(string(text))
		for at := range text {
			kept := text[at]
			for c := range 256 {
				text[at] = byte(c)
				if same := sum.Sum(string(text)) == was; same != (byte(c) == kept) {
					t.Fatalf("%d bytes: %d at %d instead of %d: same sum: %v", len(text), c, at, kept, same)
				}
			}
			text[at] = kept
		}
	}
}

// exchanged tells whether the sum is another one if the bytes at i and j change places.
func exchanged(text []byte, i, j int) bool {
	was := sum.Sum(string(text))
	text[i], text[j] = text[j], text[i]
	is := sum.Sum(string(text))
	text[i], text[j] = text[j], text[i]
	return is != was
}

// P1.2
func TestExchangedBytesAreAnotherSum(t *testing.T) {
	for _, text := range [][]byte{noise(600, 9), noise(600, 10)} {
		for i := range text {
			for j := i + 1; j < len(text) && j <= i+256; j++ {
				if text[i] != text[j] && !exchanged(text, i, j) {
					t.Fatalf("%d at %d and %d at %d change places, and the sum stays", text[i], i, text[j], j)
				}
			}
		}
	}
}

// P1.2: each two unlike bytes, as near and as far from each other as may be.
func TestEachPairExchanged(t *testing.T) {
	for _, apart := range []int{1, 2, 128, 255, 256} {
		for _, ahead := range []int{0, 3} {
			text := noise(ahead+apart+1+ahead, uint32(apart))
			for x := range 256 {
				for y := range x {
					text[ahead], text[ahead+apart] = byte(x), byte(y)
					if !exchanged(text, ahead, ahead+apart) {
						t.Fatalf("%d and %d, %d apart, change places, and the sum stays", x, y, apart)
					}
				}
			}
		}
	}
}

// P1.1: 257 apart, 0 and 255 change b by 65535: more than P1.2 promises is not there, by what the sum is said to be.
func TestExchangedFurtherApart(t *testing.T) {
	text := make([]byte, 258)
	text[0] = 255
	if exchanged(text, 0, 257) {
		t.Error("b isn't taken modulo 65535")
	}
}

// P1.2, in pages: the same holds over their borders.
func TestPagesChanged(t *testing.T) {
	l := pages(3, 21)
	was := sum.Pages(l...)
	for i := range l {
		for at := range api.PageSize {
			l[i][at] ^= 0xFF
			if sum.Pages(l...) == was {
				t.Errorf("page %d, byte %d: another byte, and the sum stays", i, at)
			}
			l[i][at] ^= 0xFF
			q := (i + 1) % len(l)
			if l[i][at] == l[q][at] {
				continue
			}
			l[i][at], l[q][at] = l[q][at], l[i][at]
			if sum.Pages(l...) == was {
				t.Errorf("pages %d and %d, byte %d change places, and the sum stays", i, q, at)
			}
			l[i][at], l[q][at] = l[q][at], l[i][at]
		}
	}
}
