package hook_test

import (
	"math"
	"strings"
	"testing"

	"narthex/hook"
)

func checkWords(t *testing.T, name string) {
	t.Helper()
	a, b := hook.Words(name)
	if wantA, wantB := nameWords(name); a != wantA || b != wantB {
		t.Errorf("Words(%q): %x, %x, not %x, %x", name, a, b, wantA, wantB)
	}
}

func checkPack(t *testing.T, text string) {
	t.Helper()
	a, b := hook.Pack(text)
	if wantA, wantB := packed(text); a != wantA || b != wantB {
		t.Errorf("Pack(%q): %x, %x, not %x, %x", text, a, b, wantA, wantB)
	}
}

func checkUnpack(t *testing.T, w0, w1, length int) {
	t.Helper()
	if got, want := hook.Unpack(w0, w1, length), unpacked(w0, w1, length); got != want {
		t.Errorf("Unpack(%x, %x, %d): %q, not %q", w0, w1, length, got, want)
	}
}

// P18.1: words of names, written out: the length stands behind the name, the highest byte first, and the first byte from 128 on makes a word less than 0.
func TestWordsWrittenOut(t *testing.T) {
	for name, want := range map[string][2]int{
		"":                {0, 0},
		"\x00":            {1 << 48, 0},
		"\x00\x00":        {2 << 40, 0},
		"ab":              {0x6162020000000000, 0},
		"abcdefg":         {0x6162636465666707, 0},
		"abcdefgh":        {0x6162636465666768, 0x0800000000000000},
		"abcdefghi":       {0x6162636465666768, 0x6909000000000000},
		"abcdefghijklm":   {0x6162636465666768, 0x696a6b6c6d0d0000},
		"abcdefghijklmn":  {0, 0},
		"\xff":            {-1<<56 + 1<<48, 0},
		"\x7f":            {0x7f01000000000000, 0},
		"\x80":            {math.MinInt + 1<<48, 0},
		"12345678\xff":    {0x3132333435363738, -1<<56 + 9<<48},
		"abcdefghijklmno": {0, 0},
	} {
		if a, b := hook.Words(name); a != want[0] || b != want[1] {
			t.Errorf("Words(%q): %x, %x, not %x", name, a, b, want)
		}
	}
}

// P18.1: words of names of each length, with bytes of each edge at each place of one; 0, 0 of longer ones.
func TestWords(t *testing.T) {
	for _, length := range []int{0, 1, 2, 3, 4, 5, 6, 7, 8, 9, 10, 11, 12, 13, 14, 15, 16, 17, 100, 269, 65549} {
		for _, name := range edgeTexts(length) {
			checkWords(t, name)
		}
	}
}

// P18.1: names that differ by zeros at their ends alone, or by a byte that could be a length, have unlike words.
func TestUnlikeEnds(t *testing.T) {
	names := []string{""}
	for length := range 14 {
		for _, first := range []string{"", "a", "abcdefg", "abcdefgh", "\x01", "\x0d", "\xff"} {
			for _, rest := range []string{"\x00", "\x01", "\x0d"} {
				if n := length - len(first); n >= 0 {
					names = append(names, first+strings.Repeat(rest, n))
				}
			}
		}
		for end := range 16 {
			if length > 0 {
				names = append(names, strings.Repeat("\x00", length-1)+string(rune(end)))
			}
		}
	}
	checkUnlike(t, names)
}

// P18.1: many names by chance: unlike names have unlike words, like ones like words.
func TestUnlikeByChance(t *testing.T) {
	c := chance(18)
	names := []string{}
	for range 20000 {
		name := c.text(c.below(14))
		names = append(names, name)
		checkWords(t, name)
	}
	checkUnlike(t, names)
}

func checkUnlike(t *testing.T, names []string) {
	t.Helper()
	of := map[[2]int]string{}
	for _, name := range names {
		a, b := hook.Words(name)
		first, there := of[[2]int{a, b}]
		if there && first != name {
			t.Errorf("%q and %q have the words %x, %x", first, name, a, b)
		}
		of[[2]int{a, b}] = name
	}
}

// P18.1: pairs of names that differ in one byte, or in their length by one, have unlike words.
func TestUnlikePairs(t *testing.T) {
	c := chance(81)
	for range 20000 {
		name := c.text(1 + c.below(13))
		other := []byte(name)
		at := c.below(len(other))
		other[at] ^= byte(1 + c.below(255))
		checkUnlike(t, []string{name, string(other), name[:len(name)-1], name[1:]})
	}
}

// P18.1: bytes in two words, written out; the length doesn't stand there.
func TestPackWrittenOut(t *testing.T) {
	for text, want := range map[string][2]int{
		"":                  {0, 0},
		"\x00":              {0, 0},
		"a":                 {97 << 56, 0},
		"\xff":              {-1 << 56, 0},
		"\x80":              {math.MinInt, 0},
		"abcdefgh":          {0x6162636465666768, 0},
		"abcdefghi":         {0x6162636465666768, 0x69 << 56},
		"abcdefghijklmnop":  {0x6162636465666768, 0x696a6b6c6d6e6f70},
		"abcdefghijklmnopq": {0, 0},
		"\xff\xff\xff\xff\xff\xff\xff\xff\x80\x00\x00\x00\x00\x00\x00\x01": {-1, math.MinInt + 1},
	} {
		if a, b := hook.Pack(text); a != want[0] || b != want[1] {
			t.Errorf("Pack(%q): %x, %x, not %x", text, a, b, want)
		}
	}
}

// P18.1: bytes of each length in two words, with bytes of each edge at each place of one, and by chance; 0, 0 of more than 16; Unpack gives them back.
func TestPack(t *testing.T) {
	c := chance(5)
	for _, length := range []int{0, 1, 2, 3, 4, 5, 6, 7, 8, 9, 10, 11, 12, 13, 14, 15, 16, 17, 100, 272, 65552} {
		texts := edgeTexts(length)
		for range 50 {
			texts = append(texts, c.text(length))
		}
		for _, text := range texts {
			checkPack(t, text)
			if a, b := hook.Pack(text); length <= 16 && hook.Unpack(a, b, length) != text {
				t.Errorf("%q comes back as %q", text, hook.Unpack(a, b, length))
			}
		}
	}
}

// P18.1: the words of a name are told by Unpack, its length in the last byte.
func TestUnpackName(t *testing.T) {
	c := chance(7)
	for length := range 14 {
		name := c.text(length)
		a, b := hook.Words(name)
		if got := hook.Unpack(a, b, length+1); got != name+string(rune(length)) {
			t.Errorf("the words of %q tell %q", name, got)
		}
	}
}

// P18.1: the first bytes of two words, of each length that there is; "" of any other.
func TestUnpack(t *testing.T) {
	for _, w0 := range farInts {
		for _, w1 := range farInts {
			for _, length := range farInts {
				checkUnpack(t, w0, w1, length)
			}
		}
	}
	if got := hook.Unpack(0x6162636465666768, -2, 16); got != "abcdefgh\xff\xff\xff\xff\xff\xff\xff\xfe" {
		t.Errorf("%q", got)
	}
}

// P18.1: Pack of Unpack of 16 gives any two words again.
func TestPackOfUnpack(t *testing.T) {
	pairs := [][2]int{}
	for _, w0 := range farInts {
		for _, w1 := range farInts {
			pairs = append(pairs, [2]int{w0, w1})
		}
	}
	c := chance(16)
	for range 20000 {
		pairs = append(pairs, [2]int{c.word(), c.word()})
	}
	for _, p := range pairs {
		checkUnpack(t, p[0], p[1], 16)
		if a, b := hook.Pack(hook.Unpack(p[0], p[1], 16)); a != p[0] || b != p[1] {
			t.Errorf("%x, %x come back as %x, %x", p[0], p[1], a, b)
		}
	}
}
