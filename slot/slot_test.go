package slot_test

import (
	"slices"
	"strings"
	"testing"

	"narthex/api"
	"narthex/slot"
)

// P12.1: the document's example.
func TestExample(t *testing.T) {
	p := slot.Put(api.Page{}, 1, slot.Entry{Ino: 258, Name: "ab"})
	if want := (api.Page{16: 1, 17: 2, 18: 2, 19: 'a', 20: 'b'}); p != want {
		t.Errorf("the page is %v, not %v", p, want)
	}
	if e, x := slot.Get(p, 1); e != (slot.Entry{Ino: 258, Name: "ab"}) || x != api.OK {
		t.Errorf("Get: %+v, %v", e, x)
	}
}

// P12.1: each error of a name, written out; of too long names it is always that, whatever is in them.
func TestCheckKnown(t *testing.T) {
	for _, c := range []struct {
		name string
		want api.Errno
	}{
		{"", api.ENOENT},
		{"a", api.OK},
		{"abcdefghijklm", api.OK},
		{"abcdefghijklmn", api.ENAMETOOLONG},
		{strings.Repeat("a", 15), api.ENAMETOOLONG},
		{strings.Repeat("a", 256), api.ENAMETOOLONG},
		{strings.Repeat("a", 257), api.ENAMETOOLONG},
		{strings.Repeat("a", 65537), api.ENAMETOOLONG},
		{".", api.EINVAL},
		{"..", api.EINVAL},
		{"...", api.OK},
		{".............", api.OK},
		{"..............", api.ENAMETOOLONG},
		{".a", api.OK},
		{"..a", api.OK},
		{"a.", api.OK},
		{"a..", api.OK},
		{". ", api.OK},
		{"\x00", api.EINVAL},
		{"/", api.EINVAL},
		{"\x00a", api.EINVAL},
		{"/a", api.EINVAL},
		{"a\x00", api.EINVAL},
		{"a/", api.EINVAL},
		{"abcdef\x00hijklm", api.EINVAL},
		{"abcdef/hijklm", api.EINVAL},
		{"abcdefghijkl\x00", api.EINVAL},
		{"abcdefghijkl/", api.EINVAL},
		{"/bcdefghijklmn", api.ENAMETOOLONG},
		{"abcdef\x00hijklmn", api.ENAMETOOLONG},
		{"abcdefghijklm/", api.ENAMETOOLONG},
		{"abcdefghijklm\x00", api.ENAMETOOLONG},
		{"\xff", api.OK},
		{"ééééééé", api.ENAMETOOLONG},
		{"éééééé", api.OK},
	} {
		if got := slot.Check(c.name); got != c.want {
			t.Errorf("Check(%q): %d, not %d", c.name, got, c.want)
		}
	}
}

// P12.1: each byte, at each place of a name of each length: two of them are wrong, and a dot among no others.
func TestCheckOfEachByte(t *testing.T) {
	for n := 1; n <= 15; n++ {
		for at := range n {
			for _, other := range []byte{'a', '.', 0xFF} {
				for c := range 256 {
					b := slices.Repeat([]byte{other}, n)
					b[at] = byte(c)
					if got, want := slot.Check(string(b)), wantCheck(string(b)); got != want {
						t.Fatalf("Check(%q): %d, not %d", b, got, want)
					}
				}
			}
		}
	}
	for _, name := range names() {
		if got, want := slot.Check(name), wantCheck(name); got != want {
			t.Errorf("Check(%q): %d, not %d", name, got, want)
		}
	}
}

// P12.1: numbers on either side of each edge, beside right names and wrong ones.
func TestRight(t *testing.T) {
	for _, c := range []struct {
		ino  int
		want bool
	}{{-1, false}, {0, false}, {1, true}, {2, true}, {65534, true}, {65535, true}, {65536, false}, {65537, false}} {
		if got := slot.Right(slot.Entry{Ino: c.ino, Name: "a"}); got != c.want {
			t.Errorf("Right of %d beside a right name: %v", c.ino, got)
		}
		for _, name := range []string{"", ".", "..", "a/", "\x00", "abcdefghijklmn"} {
			if slot.Right(slot.Entry{Ino: c.ino, Name: name}) {
				t.Errorf("%d beside %q is right", c.ino, name)
			}
		}
	}
	for _, ino := range numbers() {
		for _, name := range names() {
			e := slot.Entry{Ino: ino, Name: name}
			if got, want := slot.Right(e), wantRight(e); got != want {
				t.Errorf("Right(%+v): %v", e, got)
			}
		}
	}
}

// P12.1: entries of all kinds into slots that are there and not, over pages of all kinds: the slot's bytes alone change, and only by what may stand there.
func TestPut(t *testing.T) {
	slots := append([]int{0, 1, 2, 3}, farInts()...)
	for _, p := range somePages() {
		for _, ino := range numbers() {
			for _, name := range names() {
				e := slot.Entry{Ino: ino, Name: name}
				for _, i := range slots {
					if got, want := slot.Put(p, i, e), wantPut(p, i, e); got != want {
						t.Fatalf("Put(%v, %d, %+v): %v, not %v", p, i, e, got, want)
					}
				}
			}
		}
	}
}

// P12.1: what is neither right nor zero leaves the page as it is, even where one half of it is right.
func TestPutOfWrong(t *testing.T) {
	for _, p := range somePages() {
		for _, e := range []slot.Entry{
			{Ino: 0, Name: "a"}, {Ino: 65536, Name: "a"}, {Ino: -1, Name: "a"}, {Ino: 1 << 32, Name: "a"},
			{Ino: 7, Name: ""}, {Ino: 65536, Name: ""}, {Ino: -65536, Name: ""}, {Ino: 7, Name: "."}, {Ino: 7, Name: ".."},
			{Ino: 7, Name: "a/"}, {Ino: 7, Name: "\x00"}, {Ino: 7, Name: "abcdefghijklmn"}, {Ino: 0, Name: "\x00"},
		} {
			for i := -1; i <= 4; i++ {
				if got := slot.Put(p, i, e); got != p {
					t.Errorf("Put(%v, %d, %+v): %v", p, i, e, got)
				}
			}
		}
	}
}

// P12.1: a shorter name leaves nothing of a longer one, and the zero entry nothing at all.
func TestPutOver(t *testing.T) {
	for _, p := range somePages() {
		for i := range 4 {
			q := slot.Put(p, i, slot.Entry{Ino: 65535, Name: "abcdefghijklm"})
			if got, want := string(q[16*i:16*i+16]), "\xff\xff\x0dabcdefghijklm"; got != want {
				t.Errorf("slot %d: %q, not %q", i, got, want)
			}
			q = slot.Put(q, i, slot.Entry{Ino: 3, Name: "xyz"})
			if got, want := string(q[16*i:16*i+16]), "\x00\x03\x03xyz"+strings.Repeat("\x00", 10); got != want {
				t.Errorf("slot %d: %q, not %q", i, got, want)
			}
			if e, x := slot.Get(q, i); e != (slot.Entry{Ino: 3, Name: "xyz"}) || x != api.OK {
				t.Errorf("slot %d: %+v, %v", i, e, x)
			}
			q = slot.Put(q, i, slot.Entry{})
			if got, want := string(q[16*i:16*i+16]), strings.Repeat("\x00", 16); got != want {
				t.Errorf("slot %d: %q, not empty", i, got)
			}
			if e, x := slot.Get(q, i); e != (slot.Entry{}) || x != api.OK {
				t.Errorf("slot %d: %+v, %v", i, e, x)
			}
			for k := range q {
				if k/16 != i && q[k] != p[k] {
					t.Errorf("slot %d: byte %d is %d, not %d", i, k, q[k], p[k])
				}
			}
		}
	}
}

// P12.1: scripts of Puts into all slots: each is told as it was put last, there or not.
func TestGetBehindPuts(t *testing.T) {
	c := chance(12)
	for range 300 {
		var p api.Page
		var last [4]slot.Entry
		for range 40 {
			i, e := c.below(6)-1, c.entry()
			if c.below(4) == 0 {
				e = slot.Entry{}
			}
			p = slot.Put(p, i, e)
			if 0 <= i && i < 4 && (wantRight(e) || e == slot.Entry{}) {
				last[i] = e
			}
			for k := range 4 {
				if got, x := slot.Get(p, k); got != last[k] || x != api.OK {
					t.Fatalf("Get(%v, %d): %+v, %d, not %+v", p, k, got, x, last[k])
				}
			}
			if got, x := slot.All(p); x != api.OK || !slices.Equal(got, last[:]) {
				t.Fatalf("All(%v): %+v, %d, not %+v", p, got, x, last)
			}
		}
	}
}

// P12.1: slots that aren't there, whatever is in the page.
func TestGetOfNoSlot(t *testing.T) {
	for _, p := range somePages() {
		for _, i := range farInts() {
			if e, x := slot.Get(p, i); e != (slot.Entry{}) || x != api.EINVAL {
				t.Errorf("Get(%v, %d): %+v, %d", p, i, e, x)
			}
		}
	}
}

// spoilt are the 16 bytes of slots that are neither empty nor entries.
func spoilt() []string {
	fill := func(s string) string { return s + strings.Repeat("\x00", 16-len(s)) }
	return []string{
		fill("\x00\x00\x01a"), // no number beside a name
		fill("\x00\x00\x0dabcdefghijklm"),
		fill("\x00\x07"), // a number, and no name
		fill("\x07\x00"),
		fill("\x00\x07\x00a"), // a name of no bytes, and a byte behind it
		fill("\x00\x07\x0e"),  // too long ones
		"\x00\x07\x0eabcdefghijklm",
		"\x00\x07\xffabcdefghijklm",
		fill("\x00\x07\xff"),
		fill("\x00\x00\x0e"),
		fill("\x00\x00\xff"),
		fill("\x00\x00\x01"), // zero but for one byte
		fill("\x00\x00\x00a"),
		strings.Repeat("\x00", 15) + "\x01",
		fill("\x00\x07\x01\x00"), // wrong names within the length
		fill("\x00\x07\x02a"),
		fill("\x00\x07\x01."),
		fill("\x00\x07\x02.."),
		fill("\x00\x07\x01/"),
		fill("\x00\x07\x03a/b"),
		fill("\x00\x07\x03a\x00b"),
		"\x00\x07\x0dabcdefghijkl\x00",
		"\x00\x07\x0d/bcdefghijklm",
		fill("\x00\x07\x01ab"), // bytes behind the name
		fill("\x00\x07\x02ab\x00\x01"),
		"\x00\x07\x01a" + strings.Repeat("\x00", 11) + "\x01",
		"\x00\x07\x0cabcdefghijklm",
		strings.Repeat("\xff", 16),
	}
}

func with(p api.Page, i int, s string) api.Page {
	copy(p[16*i:16*i+16], s)
	return p
}

// P12.1: what is no entry is EIO in its own slot, and nowhere else.
func TestGetOfSpoilt(t *testing.T) {
	entries := somePages()[3]
	for _, s := range spoilt() {
		for i := range 4 {
			for _, p := range []api.Page{{}, entries} {
				q := with(p, i, s)
				for k := range 4 {
					want, wantErr := wantGet(p, k)
					if k == i {
						want, wantErr = slot.Entry{}, api.EIO
					}
					if e, x := slot.Get(q, k); e != want || x != wantErr {
						t.Errorf("slot %d beside %q in slot %d: %+v, %d", k, s, i, e, x)
					}
				}
			}
		}
	}
}

// P12.1: entries, each byte of which is changed to each value, in each slot.
func TestGetOfEachByte(t *testing.T) {
	for _, name := range []string{"", "a", "ab", "...", "abcdefghijkl", "abcdefghijklm"} {
		for i := range 4 {
			p := wantPut(api.Page{}, i, slot.Entry{Ino: 258, Name: name})
			for k := range p {
				for c := range 256 {
					q := p
					q[k] = byte(c)
					e, x := slot.Get(q, i)
					want, wantErr := wantGet(q, i)
					if e != want || x != wantErr {
						t.Fatalf("Get(%v, %d): %+v, %d, not %+v, %d", q, i, e, x, want, wantErr)
					}
				}
			}
		}
	}
}

// P12.1: any bytes, of which few are entries.
func TestGetOfAnyBytes(t *testing.T) {
	c := chance(77)
	for range 20000 {
		p := c.page()
		for i := range 4 {
			p[16*i] &= byte(c.below(2))
			p[16*i+1] &= byte(c.below(4))
			p[16*i+2] = byte(c.below(15))
			clear(p[min(16*i+3+c.below(15), 16*i+16) : 16*i+16])
		}
		for i := range 4 {
			e, x := slot.Get(p, i)
			want, wantErr := wantGet(p, i)
			if e != want || x != wantErr {
				t.Fatalf("Get(%v, %d): %+v, %d, not %+v, %d", p, i, e, x, want, wantErr)
			}
		}
	}
}

// P12.1: of no pages nothing, of others four entries each, in order, zero ones too.
func TestAll(t *testing.T) {
	if l, x := slot.All(); len(l) != 0 || x != api.OK {
		t.Errorf("All of no pages: %+v, %d", l, x)
	}
	if l, x := slot.All(api.Page{}); len(l) != 4 || x != api.OK || !slices.Equal(l, make([]slot.Entry, 4)) {
		t.Errorf("All of a zero page: %+v, %d", l, x)
	}
	p := wantPut(wantPut(api.Page{}, 3, slot.Entry{Ino: 9, Name: "d"}), 1, slot.Entry{Ino: 8, Name: "b"})
	q := wantPut(api.Page{}, 0, slot.Entry{Ino: 7, Name: "a"})
	want := []slot.Entry{{}, {Ino: 8, Name: "b"}, {}, {Ino: 9, Name: "d"}, {Ino: 7, Name: "a"}, {}, {}, {}, {}, {}, {}, {}, {}, {Ino: 8, Name: "b"}, {}, {Ino: 9, Name: "d"}}
	if l, x := slot.All(p, q, api.Page{}, p); x != api.OK || !slices.Equal(l, want) {
		t.Errorf("All: %+v, %d", l, x)
	}
}

// P12.1: one slot that is none, wherever it is: nothing, and EIO.
func TestAllOfSpoilt(t *testing.T) {
	entries := somePages()[3]
	for _, s := range spoilt() {
		for _, p := range []api.Page{{}, entries} {
			for at := range 12 {
				l := []api.Page{p, p, p}
				l[at/4] = with(p, at%4, s)
				if got, x := slot.All(l...); got != nil || x != api.EIO {
					t.Errorf("All with %q in slot %d: %+v, %d", s, at, got, x)
				}
			}
		}
	}
	if got, x := slot.All(with(with(api.Page{}, 0, spoilt()[0]), 3, spoilt()[1])); got != nil || x != api.EIO {
		t.Errorf("All with two: %+v, %d", got, x)
	}
}

// P12.1: lists of any pages; they stay as they were, and no two answers share memory.
func TestAllOfAnyPages(t *testing.T) {
	c := chance(3)
	for range 500 {
		var l []api.Page
		for range c.below(6) {
			var p api.Page
			for i := range 4 {
				p = wantPut(p, i, c.entry())
			}
			if c.below(8) == 0 {
				p[c.below(64)] ^= byte(1 + c.below(255))
			}
			l = append(l, p)
		}
		was := slices.Clone(l)
		got, x := slot.All(l...)
		want, wantErr := wantAll(l...)
		if x != wantErr || !slices.Equal(got, want) {
			t.Fatalf("All(%v): %+v, %d, not %+v, %d", l, got, x, want, wantErr)
		}
		for k := range got {
			got[k] = slot.Entry{Ino: -1}
		}
		if again, _ := slot.All(l...); !slices.Equal(again, want) {
			t.Fatalf("All(%v) a second time: %+v", l, again)
		}
		if !slices.Equal(l, was) {
			t.Fatalf("of %v came %v", was, l)
		}
	}
}
