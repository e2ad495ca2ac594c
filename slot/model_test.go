package slot_test

import (
	"math"
	"strings"

	"narthex/api"
	"narthex/slot"
)

// chance is numbers that look like chance, the same in each run.
type chance uint32

func (c *chance) below(n int) int {
	*c = *c*1664525 + 1013904223
	return int(*c>>8) % n
}

func (c *chance) page() (p api.Page) {
	for k := range p {
		p[k] = byte(c.below(256))
	}
	return p
}

// name is often right: of any bytes, and rarely of those that may not be.
func (c *chance) name() string {
	l := make([]byte, c.below(16))
	for k := range l {
		l[k] = byte(c.below(256))
		if c.below(3) > 0 {
			l[k] = "ab./\x00"[min(c.below(20), 4)]
		}
	}
	return string(l)
}

func (c *chance) entry() slot.Entry {
	return slot.Entry{Ino: c.below(66000) - 100, Name: c.name()}
}

// farInts are no slots; some of their places would wrap round into a page.
func farInts() []int {
	return []int{math.MinInt, math.MinInt + 1, math.MinInt + 3, -1 << 62, -1 << 60, -1 << 32, -64, -4, -3, -2, -1, 4, 5, 8, 64, 1 << 28, 1 << 32, 1 << 59, 1 << 60, 1<<60 + 1, 1<<60 + 3, 1 << 61, 1 << 62, math.MaxInt - 1, math.MaxInt}
}

// wantCheck asks for each error by itself, byte by byte.
func wantCheck(name string) api.Errno {
	if len(name) == 0 {
		return api.ENOENT
	}
	if len(name) >= 14 {
		return api.ENAMETOOLONG
	}
	for k := range len(name) {
		if name[k] == 0 || name[k] == '/' {
			return api.EINVAL
		}
	}
	if name == "." || name == ".." {
		return api.EINVAL
	}
	return api.OK
}

func wantRight(e slot.Entry) bool {
	return e.Ino > 0 && e.Ino < 65536 && wantCheck(e.Name) == api.OK
}

// wantPut lays the slot's 16 bytes out as a text.
func wantPut(p api.Page, i int, e slot.Entry) api.Page {
	if i < 0 || i > 3 || !wantRight(e) && (e.Ino != 0 || e.Name != "") {
		return p
	}
	s := string([]byte{byte(e.Ino / 256), byte(e.Ino % 256), byte(len(e.Name))}) + e.Name + strings.Repeat("\x00", 13-len(e.Name))
	for k := range 16 {
		p[16*i+k] = s[k]
	}
	return p
}

// wantGet reads the slot's bytes as the document lists them.
func wantGet(p api.Page, i int) (slot.Entry, api.Errno) {
	if i < 0 || i > 3 {
		return slot.Entry{}, api.EINVAL
	}
	s := string(p[16*i : 16*i+16])
	if s == strings.Repeat("\x00", 16) {
		return slot.Entry{}, api.OK
	}
	n := int(s[2])
	if n > 13 {
		return slot.Entry{}, api.EIO
	}
	e := slot.Entry{Ino: int(s[0])*256 + int(s[1]), Name: s[3 : 3+n]}
	if !wantRight(e) || strings.Trim(s[3+n:], "\x00") != "" {
		return slot.Entry{}, api.EIO
	}
	return e, api.OK
}

func wantAll(l ...api.Page) ([]slot.Entry, api.Errno) {
	var all []slot.Entry
	for k := range 4 * len(l) {
		e, x := wantGet(l[k/4], k%4)
		if x != api.OK {
			return nil, api.EIO
		}
		all = append(all, e)
	}
	return all, api.OK
}

// names are right ones and wrong ones, at each edge.
func names() []string {
	l := []string{"", ".", "..", "...", "....", ".a", "a.", "..a", ". ", " .", " ", "a", "b", "ab", "\x00", "/", "\x01", "\\", "0", "\x2e\x00", "./", "/.", "../", "é", "日本語", "\xff", "\x80\x81", "\xc0\xaf", "\xe2\x88\x95", "～"}
	for n := 2; n <= 17; n++ {
		name := "abcdefghijklmnopq"[:n]
		l = append(l, name, strings.Repeat(".", n), strings.Repeat("\xff", n))
		for _, wrong := range []byte{0, '/'} {
			for _, k := range []int{0, n / 2, n - 1} {
				b := []byte(name)
				b[k] = wrong
				l = append(l, string(b))
			}
		}
	}
	return append(l, strings.Repeat("a", 255), strings.Repeat("a", 256), strings.Repeat("a", 257), strings.Repeat("a", 269), strings.Repeat("/", 256), strings.Repeat("\x00", 70000))
}

func numbers() []int {
	return []int{math.MinInt, math.MinInt + 1, -1 << 32, -65536, -65535, -256, -2, -1, 0, 1, 2, 127, 128, 255, 256, 257, 258, 32767, 32768, 65534, 65535, 65536, 65537, 1 << 17, 1<<32 + 1, 1 << 48, math.MaxInt}
}

// somePages are zero, full, rising, noisy ones, and one of right entries.
func somePages() []api.Page {
	var full, rising, entries api.Page
	for k := range full {
		full[k], rising[k] = 255, byte(k)
	}
	for i, name := range []string{"a", "abcdefghijklm", "..x", "\xff\xfe"} {
		entries = wantPut(entries, i, slot.Entry{Ino: 1 + 21845*i, Name: name})
	}
	c := chance(5)
	return []api.Page{{}, full, rising, entries, c.page(), c.page()}
}
