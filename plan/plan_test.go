package plan_test

import (
	"math"
	"slices"
	"sync"
	"testing"

	"narthex/api"
	"narthex/plan"
)

// laid is where what lies on a disk, told another way than the program's: pages are handed out one behind the other.
type laid struct {
	plan                                       plan.Plan
	super, journal, inodeBits, dataBits, table int
	places                                     [][2]int // of inode 1, 2 ..
	data                                       []int    // of bit 0, 1 ..
}

// lay is false, if the plan isn't right; the numbers are the document's.
func lay(pages, inodes int) (laid, bool) {
	if inodes < 1 || inodes > 128 || pages < 0 || pages > 512 {
		return laid{}, false
	}
	free := make([]int, pages+200) // more than there are: what is laid behind the end shows itself
	for i := range free {
		free[i] = i
	}
	take := func(n int) int {
		first := free[0]
		free = free[n:]
		return first
	}
	l := laid{plan: plan.Plan{Pages: pages, Inodes: inodes}, super: take(1), journal: take(40), inodeBits: take(1), dataBits: take(1), table: free[0]}
	for left := inodes; left > 0; left -= 2 {
		at := take(1)
		l.places = append(l.places, [2]int{at, 0})
		if left > 1 {
			l.places = append(l.places, [2]int{at, 1})
		}
	}
	for free[0] < pages {
		l.data = append(l.data, take(1))
	}
	return l, len(l.data) > 0
}

// rightPlans are all that there are, laid once: many tests go through them.
var rightPlans = sync.OnceValue(func() []laid {
	var l []laid
	for pages := range 514 {
		for inodes := range 130 {
			if x, right := lay(pages, inodes); right {
				l = append(l, x)
			}
		}
	}
	return l
})

var rightSet = sync.OnceValue(func() map[plan.Plan]bool {
	set := map[plan.Plan]bool{}
	for _, l := range rightPlans() {
		set[l.plan] = true
	}
	return set
})

// somePlans are right ones at the edges: few and many pages and inodes, even and odd counts, a single data page and more.
func somePlans() []laid {
	var l []laid
	for _, c := range [][2]int{{45, 1}, {45, 2}, {46, 3}, {46, 4}, {60, 5}, {100, 10}, {107, 126}, {107, 125}, {108, 127}, {108, 128}, {255, 7}, {256, 8}, {257, 9}, {300, 99}, {511, 127}, {511, 128}, {512, 1}, {512, 2}, {512, 127}, {512, 128}} {
		x, right := lay(c[0], c[1])
		if !right {
			panic("a plan of the tests isn't right")
		}
		l = append(l, x)
	}
	return l
}

// wideInts are numbers beyond all edges; the lowest two bytes of some are those of a right count.
func wideInts() []int {
	return []int{math.MinInt, math.MinInt + 1, math.MinInt + 100, math.MinInt32, -65536 + 100, -65536, -513, -512, -129, -128, -100, -3, -2, -1,
		513, 514, 1000, 1024, 32768, 65535, 65536, 65537, 65536 + 10, 65536 + 100, 65536 + 512, 1 << 31, 1<<32 + 10, 1<<32 + 100,
		math.MaxInt - 100, math.MaxInt - 44, math.MaxInt - 1, math.MaxInt}
}

// wrongPlans have counts that are just beyond an edge, far beyond one, or both.
func wrongPlans() []plan.Plan {
	l := []plan.Plan{{}, {Pages: 44, Inodes: 1}, {Pages: 44, Inodes: 2}, {Pages: 45, Inodes: 3}, {Pages: 45, Inodes: 4}, {Pages: 107, Inodes: 127}, {Pages: 107, Inodes: 128},
		{Pages: 0, Inodes: 1}, {Pages: 1, Inodes: 1}, {Pages: 43, Inodes: 1}, {Pages: 100, Inodes: 0}, {Pages: 512, Inodes: 0}, {Pages: 512, Inodes: 129}, {Pages: 512, Inodes: 256}, {Pages: 512, Inodes: 257}, {Pages: 513, Inodes: 1}, {Pages: 513, Inodes: 128}}
	for _, n := range wideInts() {
		for _, right := range []int{1, 10, 45, 100, 128} {
			l = append(l, plan.Plan{Pages: n, Inodes: right}, plan.Plan{Pages: right, Inodes: n}, plan.Plan{Pages: 512, Inodes: n})
		}
		for _, m := range wideInts() {
			l = append(l, plan.Plan{Pages: n, Inodes: m})
		}
	}
	return l
}

// pageOf is the bytes of a super page with these counts, right or not.
func pageOf(pages, inodes int) (x api.Page) {
	x[0], x[1], x[2], x[3] = 'N', 'R', 'T', 'X'
	x[4], x[5] = byte(pages/256), byte(pages%256)
	x[6], x[7] = byte(inodes/256), byte(inodes%256)
	return x
}

// wantRead holds Read against what the bytes say one by one.
func wantRead(t *testing.T, x api.Page) {
	t.Helper()
	pages, inodes := int(x[4])*256+int(x[5]), int(x[6])*256+int(x[7])
	want, e := plan.Plan{}, api.EINVAL
	if p := (plan.Plan{Pages: pages, Inodes: inodes}); rightSet()[p] && x == pageOf(pages, inodes) {
		want, e = p, api.OK
	}
	if got, ge := plan.Read(x); got != want || ge != e {
		t.Fatalf("Read of %v: %+v and %d, not %+v and %d", x, got, ge, want, e)
	}
}

// P8.1: the document's example.
func TestExample(t *testing.T) {
	p, e := plan.New(100, 10)
	if e != api.OK || p != (plan.Plan{Pages: 100, Inodes: 10}) {
		t.Fatalf("New(100, 10): %+v and %d", p, e)
	}
	got := []int{p.Journal(), plan.JournalSize, p.InodeBits(), p.DataBits(), p.Table(), p.Data(), p.Room()}
	if want := []int{1, 40, 41, 42, 43, 48, 52}; !slices.Equal(got, want) {
		t.Errorf("where what lies: %v, not %v", got, want)
	}
	if at, half := p.Place(10); at != 47 || half != 1 {
		t.Errorf("the last inode: page %d, half %d", at, half)
	}
}

// P8.1: either side of each limit.
func TestNewKnown(t *testing.T) {
	for _, c := range []struct {
		pages, inodes int
		right         bool
	}{
		{200, 0, false},
		{200, 1, true},
		{200, 128, true},
		{200, 129, false},
		{512, 0, false},
		{512, 1, true},
		{512, 128, true},
		{512, 129, false},
		{513, 1, false},
		{513, 128, false},
		{44, 1, false},
		{45, 1, true},
		{44, 2, false},
		{45, 2, true},
		{45, 3, false},
		{46, 3, true},
		{45, 4, false},
		{46, 4, true},
		{106, 126, false},
		{107, 126, true},
		{107, 127, false},
		{108, 127, true},
		{107, 128, false},
		{108, 128, true},
		{0, 0, false},
		{0, 1, false},
		{1, 1, false},
		{-1, 1, false},
		{100, -1, false},
		{-100, -10, false},
		{math.MaxInt, 1, false},
		{math.MinInt, 1, false},
		{100, math.MaxInt, false},
		{100, math.MaxInt - 1, false},
		{100, math.MinInt, false},
		{math.MaxInt, math.MaxInt, false},
		{math.MinInt, math.MinInt, false},
		{math.MinInt, math.MaxInt, false},
		{math.MaxInt, math.MinInt, false},
	} {
		want, e := plan.Plan{}, api.EINVAL
		if c.right {
			want, e = plan.Plan{Pages: c.pages, Inodes: c.inodes}, api.OK
		}
		if got, ge := plan.New(c.pages, c.inodes); got != want || ge != e {
			t.Errorf("New(%d, %d): %+v and %d, not %+v and %d", c.pages, c.inodes, got, ge, want, e)
		}
	}
}

// P8.1: all counts that are right, those around them, and any with numbers far away.
func TestNewEverywhere(t *testing.T) {
	var pages, inodes []int
	for n := -4; n < 520; n++ {
		pages = append(pages, n)
	}
	for n := -4; n < 260; n++ {
		inodes = append(inodes, n)
	}
	for _, n := range slices.Concat(pages, wideInts()) {
		for _, m := range slices.Concat(inodes, wideInts()) {
			want, e := plan.Plan{}, api.EINVAL
			if p := (plan.Plan{Pages: n, Inodes: m}); rightSet()[p] {
				want, e = p, api.OK
			}
			if got, ge := plan.New(n, m); got != want || ge != e {
				t.Fatalf("New(%d, %d): %+v and %d, not %+v and %d", n, m, got, ge, want, e)
			}
		}
	}
}

// P8.1: bytes that are written out.
func TestSuperKnown(t *testing.T) {
	for _, c := range []struct {
		pages, inodes int
		want          string
	}{
		{45, 1, "NRTX\x00\x2d\x00\x01"},
		{100, 10, "NRTX\x00\x64\x00\x0a"},
		{255, 127, "NRTX\x00\xff\x00\x7f"},
		{256, 128, "NRTX\x01\x00\x00\x80"},
		{300, 9, "NRTX\x01\x2c\x00\x09"},
		{511, 3, "NRTX\x01\xff\x00\x03"},
		{512, 128, "NRTX\x02\x00\x00\x80"},
	} {
		var want api.Page
		copy(want[:], c.want)
		p := plan.Plan{Pages: c.pages, Inodes: c.inodes}
		if got, e := plan.Super(p); got != want || e != api.OK {
			t.Errorf("Super of %+v: %v and %d, not %v", p, got, e, want)
		}
	}
}

// P8.1: each right plan's super page, byte by byte, and back.
func TestSuperAndReadOfEachRightPlan(t *testing.T) {
	for _, l := range rightPlans() {
		x, e := plan.Super(l.plan)
		if e != api.OK {
			t.Fatalf("Super of %+v: %d", l.plan, e)
		}
		want := pageOf(l.plan.Pages, l.plan.Inodes)
		for i, c := range want {
			if x[i] != c {
				t.Fatalf("Super of %+v: byte %d is %d, not %d", l.plan, i, x[i], c)
			}
		}
		if got, e := plan.Read(x); got != l.plan || e != api.OK {
			t.Fatalf("Read of the super page of %+v: %+v and %d", l.plan, got, e)
		}
	}
}

// P8.1: of a plan that isn't right: the zero page and EINVAL; a count's lowest bytes alone are not taken for it.
func TestSuperOfWrongPlans(t *testing.T) {
	for _, p := range wrongPlans() {
		if x, e := plan.Super(p); x != (api.Page{}) || e != api.EINVAL {
			t.Errorf("Super of %+v: %v and %d", p, x, e)
		}
	}
}

// P8.1: a byte that is changed, each one to each other value: what is told is another right plan, if the counts are its, or nothing.
func TestReadOfChangedBytes(t *testing.T) {
	for _, l := range somePlans() {
		super := pageOf(l.plan.Pages, l.plan.Inodes)
		for i := range super {
			for by := 1; by < 256; by++ {
				x := super
				x[i] ^= byte(by)
				wantRead(t, x)
				if i < 4 || i > 7 {
					if p, e := plan.Read(x); p != (plan.Plan{}) || e != api.EINVAL {
						t.Fatalf("Read of %+v's super page with byte %d changed by %d: %+v and %d", l.plan, i, by, p, e)
					}
				}
			}
		}
	}
}

// P8.1: each right plan's super page with each byte changed.
func TestReadOfEachRightPlanChanged(t *testing.T) {
	for n, l := range rightPlans() {
		super := pageOf(l.plan.Pages, l.plan.Inodes)
		for i := range super {
			x := super
			x[i] += byte(1 + (n+i)%255)
			wantRead(t, x)
		}
	}
}

// P8.1: two bytes that are changed, those that are swapped too.
func TestReadOfTwoChangedBytes(t *testing.T) {
	for _, l := range somePlans() {
		super := pageOf(l.plan.Pages, l.plan.Inodes)
		for i := range super {
			for j := range i {
				x := super
				x[i], x[j] = x[j], x[i]
				wantRead(t, x)
				x[i]++
				wantRead(t, x)
			}
		}
	}
}

// P8.1: pages that no plan has, without a mark or with another, all zero or all full.
func TestReadOfOtherPages(t *testing.T) {
	var full, onlyMark, noMark, small, shifted api.Page
	for i := range full {
		full[i] = 255
	}
	copy(onlyMark[:], "NRTX")
	copy(noMark[:], "\x00\x00\x00\x00\x00\x64\x00\x0a")
	copy(small[:], "nrtx\x00\x64\x00\x0a")
	copy(shifted[1:], "NRTX\x00\x64\x00\x0a")
	for _, x := range []api.Page{{}, full, onlyMark, noMark, small, shifted} {
		if p, e := plan.Read(x); p != (plan.Plan{}) || e != api.EINVAL {
			t.Errorf("Read of %v: %+v and %d", x, p, e)
		}
	}
}

// P8.1: a super page whose counts are of no right plan.
func TestReadOfWrongCounts(t *testing.T) {
	for _, c := range [][2]int{{0, 0}, {100, 0}, {0, 10}, {44, 1}, {44, 2}, {45, 3}, {45, 4}, {107, 127}, {107, 128}, {513, 1}, {513, 128}, {512, 0}, {512, 129}, {512, 256}, {512, 257}, {612, 10}, {65535, 1}, {100, 65535}, {65535, 65535}} {
		if p, e := plan.Read(pageOf(c[0], c[1])); p != (plan.Plan{}) || e != api.EINVAL {
			t.Errorf("Read of a page with the counts %d and %d: %+v and %d", c[0], c[1], p, e)
		}
	}
	for pages := range 1100 {
		for inodes := range 400 {
			wantRead(t, pageOf(pages, inodes))
		}
	}
}

// P8.1: each page's number, and Room, of each right plan.
func TestPagesOfEachRightPlan(t *testing.T) {
	for _, l := range rightPlans() {
		p := l.plan
		got := []int{p.Journal(), p.InodeBits(), p.DataBits(), p.Table(), p.Data(), p.Room()}
		want := []int{l.journal, l.inodeBits, l.dataBits, l.table, l.data[0], len(l.data)}
		if !slices.Equal(got, want) {
			t.Fatalf("%+v: %v, not %v", p, got, want)
		}
	}
	if plan.JournalSize != 40 {
		t.Errorf("JournalSize is %d", plan.JournalSize)
	}
}

// P8.1: a plan that isn't right has no page of any kind, whatever is asked for.
func TestWrongPlans(t *testing.T) {
	numbers := []int{math.MinInt, math.MinInt + 48, -48, -1, 0, 1, 2, 10, 41, 42, 43, 44, 45, 47, 48, 99, 100, 128, 129, 511, 512, 513, 65536, math.MaxInt - 48, math.MaxInt}
	for _, p := range wrongPlans() {
		got := []int{p.Journal(), p.InodeBits(), p.DataBits(), p.Table(), p.Data(), p.Room()}
		if !slices.Equal(got, make([]int, 6)) {
			t.Errorf("%+v isn't right, and has the pages %v", p, got)
		}
		for _, n := range numbers {
			if at, half := p.Place(n); at != 0 || half != 0 {
				t.Errorf("%+v isn't right: Place(%d) is %d, %d", p, n, at, half)
			}
			if got := p.Bit(n); got != -1 {
				t.Errorf("%+v isn't right: Bit(%d) is %d", p, n, got)
			}
			if got := p.At(n); got != 0 {
				t.Errorf("%+v isn't right: At(%d) is %d", p, n, got)
			}
		}
	}
}

// P8.1
func TestPlaceKnown(t *testing.T) {
	for _, c := range []struct {
		pages, inodes, ino, at, half int
	}{
		{100, 10, 1, 43, 0},
		{100, 10, 2, 43, 1},
		{100, 10, 3, 44, 0},
		{100, 10, 9, 47, 0},
		{100, 10, 10, 47, 1},
		{100, 10, 11, 0, 0},
		{100, 10, 12, 0, 0},
		{100, 10, 0, 0, 0},
		{100, 10, -1, 0, 0},
		{100, 10, -2, 0, 0},
		{100, 9, 9, 47, 0},
		{100, 9, 10, 0, 0}, // the half that is no inode's
		{45, 1, 1, 43, 0},
		{45, 1, 2, 0, 0},
		{512, 128, 127, 106, 0},
		{512, 128, 128, 106, 1},
		{512, 128, 129, 0, 0},
		{512, 127, 127, 106, 0},
		{512, 127, 128, 0, 0},
		{512, 128, math.MaxInt, 0, 0},
		{512, 128, math.MinInt, 0, 0},
		{512, 128, math.MinInt + 1, 0, 0},
	} {
		p := plan.Plan{Pages: c.pages, Inodes: c.inodes}
		if at, half := p.Place(c.ino); at != c.at || half != c.half {
			t.Errorf("%+v: Place(%d) is %d, %d, not %d, %d", p, c.ino, at, half, c.at, c.half)
		}
	}
}

// P8.1: each inode of each right plan, and those that aren't there.
func TestPlaceEverywhere(t *testing.T) {
	for _, l := range rightPlans() {
		for i, want := range l.places {
			if at, half := l.plan.Place(i + 1); at != want[0] || half != want[1] {
				t.Fatalf("%+v: Place(%d) is %d, %d, not %v", l.plan, i+1, at, half, want)
			}
		}
		for _, ino := range slices.Concat(wideInts(), []int{0, l.plan.Inodes + 1, l.plan.Inodes + 2}) {
			if at, half := l.plan.Place(ino); at != 0 || half != 0 {
				t.Fatalf("%+v has no inode %d: Place is %d, %d", l.plan, ino, at, half)
			}
		}
	}
}

// P8.1
func TestBitAndAtKnown(t *testing.T) {
	p, single := plan.Plan{Pages: 100, Inodes: 10}, plan.Plan{Pages: 46, Inodes: 3}
	for _, c := range []struct {
		p        plan.Plan
		at, want int
	}{
		{p, 48, 0}, {p, 49, 1}, {p, 99, 51}, {p, 47, -1}, {p, 100, -1}, {p, 0, -1}, {p, 1, -1}, {p, -1, -1}, {p, math.MaxInt, -1}, {p, math.MinInt, -1},
		{single, 45, 0}, {single, 44, -1}, {single, 46, -1},
	} {
		if got := c.p.Bit(c.at); got != c.want {
			t.Errorf("%+v: Bit(%d) is %d, not %d", c.p, c.at, got, c.want)
		}
	}
	for _, c := range []struct {
		p         plan.Plan
		bit, want int
	}{
		{p, 0, 48}, {p, 1, 49}, {p, 51, 99}, {p, 52, 0}, {p, -1, 0}, {p, -48, 0}, {p, math.MaxInt, 0}, {p, math.MaxInt - 47, 0}, {p, math.MinInt, 0},
		{single, 0, 45}, {single, 1, 0}, {single, -1, 0},
	} {
		if got := c.p.At(c.bit); got != c.want {
			t.Errorf("%+v: At(%d) is %d, not %d", c.p, c.bit, got, c.want)
		}
	}
}

// P8.1: the first and the last data page of each right plan, and those on either side.
func TestBitAndAtOfEachRightPlan(t *testing.T) {
	for _, l := range rightPlans() {
		last := len(l.data) - 1
		for _, bit := range []int{0, last / 2, last} {
			if got := l.plan.Bit(l.data[bit]); got != bit {
				t.Fatalf("%+v: Bit(%d) is %d, not %d", l.plan, l.data[bit], got, bit)
			}
			if got := l.plan.At(bit); got != l.data[bit] {
				t.Fatalf("%+v: At(%d) is %d, not %d", l.plan, bit, got, l.data[bit])
			}
		}
		for _, at := range slices.Concat(wideInts(), []int{0, 1, 41, 42, 43, l.data[0] - 1, l.data[last] + 1}) {
			if got := l.plan.Bit(at); got != -1 {
				t.Fatalf("%+v: %d is no data page, and Bit is %d", l.plan, at, got)
			}
		}
		for _, bit := range slices.Concat(wideInts(), []int{-l.data[0], last + 1, last + 2}) {
			if got := l.plan.At(bit); got != 0 {
				t.Fatalf("%+v: there is no bit %d, and At is %d", l.plan, bit, got)
			}
		}
	}
}

// P8.1: each page of some plans: Bit and At are each other's way back.
func TestBitAndAtEverywhere(t *testing.T) {
	for _, l := range somePlans() {
		for at := -3; at < 520; at++ {
			if got, want := l.plan.Bit(at), slices.Index(l.data, at); got != want {
				t.Fatalf("%+v: Bit(%d) is %d, not %d", l.plan, at, got, want)
			}
			want := 0
			if at >= 0 && at < len(l.data) {
				want = l.data[at]
			}
			if got := l.plan.At(at); got != want {
				t.Fatalf("%+v: At(%d) is %d, not %d", l.plan, at, got, want)
			}
		}
	}
}

// P8.1: no two things of a right plan lie on one page, but two inodes, in a half each; none lies outside of the disk, and every page is something's.
func TestNoTwoThingsOnOnePage(t *testing.T) {
	for _, l := range rightPlans() {
		p := l.plan
		things := make([]int, p.Pages)
		lie := func(what string, at int) {
			if at < 0 || at >= p.Pages {
				t.Fatalf("%+v: %s lies on page %d", p, what, at)
			}
			if things[at]++; things[at] > 1 {
				t.Fatalf("%+v: %s lies on page %d, where something lies already", p, what, at)
			}
		}
		lie("the super page", l.super)
		for i := range plan.JournalSize {
			lie("the journal", p.Journal()+i)
		}
		lie("the inode bits", p.InodeBits())
		lie("the data bits", p.DataBits())
		for bit := range p.Room() {
			lie("data", p.At(bit))
		}
		halves := make([][2]int, p.Pages)
		for ino := 1; ino <= p.Inodes; ino++ {
			at, half := p.Place(ino)
			if halves[at] == [2]int{} {
				lie("an inode", at)
			}
			if halves[at][half]++; halves[at][half] > 1 {
				t.Fatalf("%+v: inode %d lies where another one lies, on page %d", p, ino, at)
			}
		}
		if at := slices.Index(things, 0); at >= 0 {
			t.Fatalf("%+v: nothing lies on page %d", p, at)
		}
	}
}
