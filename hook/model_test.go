package hook_test

import (
	"encoding/binary"
	"math"
	"strings"
)

// chance is numbers that look like chance, the same in each run.
type chance uint32

func (c *chance) below(n int) int {
	*c = *c*1664525 + 1013904223
	return int(*c>>8) % n
}

// text is so many bytes; few kinds of them, so that unlike texts are often nearly alike.
func (c *chance) text(n int) string {
	var b strings.Builder
	for range n {
		b.WriteByte([]byte{0, 0, 0, 1, 2, 13, 127, 128, 255, 'a'}[c.below(10)])
	}
	return b.String()
}

// word is any number of 64 bits.
func (c *chance) word() int {
	w := 0
	for range 8 {
		w = w<<8 | c.below(256)
	}
	return w
}

// farInts are numbers around all that the chapter bounds, and at the edges of what an int can be.
var farInts = []int{
	math.MinInt, math.MinInt + 1, -1 << 32, math.MinInt32, -256, -17, -9, -8, -5, -4, -3, -2, -1,
	0, 1, 2, 3, 4, 5, 6, 7, 8, 9, 10, 13, 14, 15, 16, 17, 18, 255, 256, 257, 258, 264,
	math.MaxInt32, 1 << 32, 1<<32 + 1, 1<<32 + 4, 1<<32 + 8, math.MaxInt - 1, math.MaxInt,
}

// fields are a hook's, written as the chapter does.
type fields struct {
	told            bool
	inputs, outputs string
}

// hooks are the chapter's, by their numbers.
var hooks = map[int]fields{
	1: {false, "dir, n0, n1, uid", "ino, kind, perm, uid, links, size"},
	2: {true, "dir, n0, n1, errno, ino, kind, perm, uid, links, size", ""},
	3: {false, "ino", "kind, perm, uid, links, size"},
	4: {true, "ino, errno, kind, perm, uid, links, size", ""},
	5: {false, "ino, off, n", "length, w0, w1"},
	6: {true, "ino, off, n, errno, length, w0, w1", ""},
	7: {true, "act, ino, dir, n0, n1, errno", ""},
	8: {false, "ino, perm, uid, owner, want", ""},
}

// helpers are the chapter's, by their numbers.
var helpers = map[int]string{
	1: "a map's number, a key",
	2: "a map's number",
	3: "a map's number, a key, a word, a word",
	4: "a map's number, a key",
}

func items(list string) int {
	if list == "" {
		return 0
	}
	return len(strings.Split(list, ", "))
}

// args is what Args answers, by the tables above.
func args(hook, helper int) (int, bool) {
	h, known := hooks[hook]
	list, is := helpers[helper]
	if !known || !is || (helper > 2 && !h.told) {
		return 0, false
	}
	return items(list), true
}

// twoWords is what stands in 16 bytes, the highest first.
func twoWords(text string) (int, int) {
	b := make([]byte, 16)
	copy(b, text)
	return int(binary.BigEndian.Uint64(b)), int(binary.BigEndian.Uint64(b[8:]))
}

// sixteen is the bytes of two words.
func sixteen(w0, w1 int) string {
	b := binary.BigEndian.AppendUint64(nil, uint64(w0))
	return string(binary.BigEndian.AppendUint64(b, uint64(w1)))
}

// nameWords is what Words answers.
func nameWords(name string) (int, int) {
	if len(name) > 13 {
		return 0, 0
	}
	return twoWords(name + string(rune(len(name))))
}

// packed is what Pack answers.
func packed(text string) (int, int) {
	if len(text) > 16 {
		return 0, 0
	}
	return twoWords(text)
}

// unpacked is what Unpack answers.
func unpacked(w0, w1, length int) string {
	for n := range 17 {
		if n == length {
			return sixteen(w0, w1)[:n]
		}
	}
	return ""
}

// edgeTexts are texts of the length: with bytes of each edge at each of the places that a word's or a text's edges are at.
func edgeTexts(length int) []string {
	l := []string{}
	for _, rest := range []string{"\x00", "a", "\xff"} {
		plain := strings.Repeat(rest, length)
		l = append(l, plain)
		for _, at := range []int{0, 6, 7, 8, 9, 12, 13, length - 1} {
			if at < 0 || at >= length {
				continue
			}
			for _, c := range []string{"\x00", "\x01", "\x0d", "\x0e", "\x7f", "\x80", "\xff"} {
				l = append(l, plain[:at]+c+plain[at+1:])
			}
		}
	}
	return l
}
