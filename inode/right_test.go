package inode_test

import (
	"math"
	"slices"
	"testing"

	"narthex/api"
	"narthex/inode"
	"narthex/plan"
)

// kinds that are something.
func kinds() []int { return []int{api.File, api.Dir, api.Link} }

// wantRightIs holds Right against what is said of it.
func wantRightIs(t *testing.T, i inode.Inode, p plan.Plan, want bool) {
	t.Helper()
	if got := inode.Right(i, p); got != want {
		t.Fatalf("Right(%+v, %+v) is %t", i, p, got)
	}
}

// P9.1: either side of each limit, written out, in a plan whose data pages are 45 to 59.
func TestRightKnown(t *testing.T) {
	p := plan.Plan{Pages: 60, Inodes: 4}
	pages := []int{0, 45, 46, 58, 59}
	noPages := []int{-1, -45, -59, 1, 2, 40, 43, 44, 60, 61, 511, 512, 65536, 65536 + 45, math.MinInt, math.MinInt + 45, math.MaxInt}
	for _, c := range []struct {
		name  string
		right []int
		wrong []int
	}{
		{"Perm", []int{0, 1, 420, 510, 511}, []int{-1, -511, 512, 1023, 65536, math.MinInt, math.MaxInt}},
		{"Uid", []int{0, 1, 1000, 65534, 65535}, []int{-1, -65535, 65536, 65537, 1 << 32, math.MinInt, math.MaxInt}},
		{"Links", []int{0, 1, 2, 39, 40}, []int{-1, -40, 41, 42, 255, 256, 65536, math.MinInt, math.MaxInt}},
		{"Size", []int{0, 1, 64, 65536, 67839, 67840}, []int{-1, -67840, 67841, 67842, 131072, 1 << 32, math.MinInt, math.MaxInt}},
		{"Direct[0]", pages, noPages},
		{"Direct[1]", pages, noPages},
		{"Direct[2]", pages, noPages},
		{"Direct[3]", pages, noPages},
		{"Ind", pages, noPages},
		{"Dind", pages, noPages},
	} {
		at := slices.IndexFunc(fields(), func(f field) bool { return f.name == c.name })
		f := fields()[at]
		for _, kind := range kinds() {
			base := inode.Inode{Kind: kind, Perm: 420, Uid: 7, Links: 2, Size: 100, Direct: [4]int{45, 50, 0, 59}, Ind: 51, Dind: 52}
			for _, n := range c.right {
				wantRightIs(t, with(base, f, n), p, true)
				wantRightIs(t, with(inode.Inode{Kind: kind}, f, n), p, true)
			}
			for _, n := range c.wrong {
				wantRightIs(t, with(base, f, n), p, false)
				wantRightIs(t, with(inode.Inode{Kind: kind}, f, n), p, false)
			}
		}
	}
}

// P9.1: which Kinds there are, of an inode of which all else is 0, and of one that is right else.
func TestRightOfKinds(t *testing.T) {
	bare, full := inode.Inode{}, inode.Inode{Perm: 420, Uid: 1, Links: 1, Size: 1}
	for _, x := range somePlans() {
		full.Direct[0] = x.data
		for kind := -300; kind < 700; kind++ {
			i, j := bare, full
			i.Kind, j.Kind = kind, kind
			wantRightIs(t, i, x.plan, kind == 0 || kind == 1 || kind == 2 || kind == 3)
			wantRightIs(t, j, x.plan, kind == 1 || kind == 2 || kind == 3)
		}
		for _, kind := range wideInts() {
			i, j := bare, full
			i.Kind, j.Kind = kind, kind
			wantRightIs(t, i, x.plan, false)
			wantRightIs(t, j, x.plan, false)
		}
	}
}

// P9.1: of Kind None, anything that isn't 0 is wrong, also what would be right of another Kind.
func TestRightOfNone(t *testing.T) {
	for _, x := range somePlans() {
		wantRightIs(t, inode.Inode{}, x.plan, true)
		for _, f := range fields()[1:] {
			for _, n := range slices.Concat([]int{1, 2, 40, 41, 43, 44, 256, 511, 512, x.data, x.plan.Pages - 1}, wideInts()) {
				wantRightIs(t, with(inode.Inode{}, f, n), x.plan, false)
			}
		}
	}
}

// P9.1: each number, all values around its limits and far ones, in each plan.
func TestRightOfEachNumber(t *testing.T) {
	for _, x := range somePlans() {
		p, last := x.plan, x.plan.Pages-1
		for _, f := range fields() {
			values := slices.Concat(wideInts(), []int{f.most - 1, f.most, f.most + 1, f.most + 65536})
			for n := -3; n < 1100; n++ {
				values = append(values, n)
			}
			for _, kind := range []int{api.None, api.File, api.Dir, api.Link} {
				for _, n := range values {
					bare := with(inode.Inode{Kind: kind}, f, n)
					wantRightIs(t, bare, p, wantRight(bare, x.data, p.Pages))
					full := with(inode.Inode{Kind: kind, Perm: 511, Uid: 65535, Links: 40, Size: 67840, Direct: [4]int{x.data, last, 0, last}, Ind: x.data, Dind: last}, f, n)
					wantRightIs(t, full, p, wantRight(full, x.data, p.Pages))
				}
			}
		}
	}
}

// P9.1: numbers don't hang on one another: a page may be named twice, Links and Size may be 0, and any pages go with any Size.
func TestRightAsksNoMore(t *testing.T) {
	p := plan.Plan{Pages: 60, Inodes: 4}
	for _, kind := range kinds() {
		for _, i := range []inode.Inode{
			{Kind: kind},
			{Kind: kind, Links: 1},
			{Kind: kind, Size: 67840},
			{Kind: kind, Size: 63, Links: 1},
			{Kind: kind, Direct: [4]int{45, 45, 45, 45}, Ind: 45, Dind: 45},
			{Kind: kind, Dind: 59},
			{Kind: kind, Direct: [4]int{0, 0, 0, 50}},
		} {
			wantRightIs(t, i, p, true)
		}
	}
}

// P9.1: two numbers at a time, each right or wrong: one wrong one is enough.
func TestRightOfTwoNumbers(t *testing.T) {
	p := plan.Plan{Pages: 60, Inodes: 4}
	for _, f := range fields() {
		for _, g := range fields() {
			for _, n := range []int{-1, 0, 1, 3, 4, 40, 41, 44, 45, 59, 60, 511, 512, 65535, 65536, 67840, 67841} {
				for _, m := range []int{-1, 0, 1, 3, 4, 40, 41, 44, 45, 59, 60, 511, 512, 65535, 65536, 67840, 67841} {
					for _, kind := range []int{api.None, api.File, api.Dir, api.Link} {
						i := with(with(inode.Inode{Kind: kind}, f, n), g, m)
						wantRightIs(t, i, p, wantRight(i, 45, 60))
					}
				}
			}
		}
	}
}

// P9.1: any numbers at all.
func TestRightOfAnyNumbers(t *testing.T) {
	n := noise{5}
	small := func(most int) int { return int(n.next()>>20)%(most+3) - 1 }
	for _, x := range somePlans() {
		for range 3000 {
			i := n.inode()
			wantRightIs(t, i, x.plan, wantRight(i, x.data, x.plan.Pages))
			i = inode.Inode{Kind: small(3), Perm: small(511), Uid: small(65535), Links: small(40), Size: small(67840), Ind: x.data + small(x.plan.Pages-x.data-1)}
			wantRightIs(t, i, x.plan, wantRight(i, x.data, x.plan.Pages))
		}
	}
}

// P9.1: in a plan that isn't right no inode is, not even the zero one.
func TestRightInWrongPlans(t *testing.T) {
	for _, p := range wrongPlans() {
		wantRightIs(t, inode.Inode{}, p, false)
		for _, kind := range kinds() {
			wantRightIs(t, inode.Inode{Kind: kind}, p, false)
			wantRightIs(t, inode.Inode{Kind: kind, Perm: 420, Links: 1, Size: 1, Direct: [4]int{50}}, p, false)
		}
		for _, i := range someInodes() {
			wantRightIs(t, i, p, false)
		}
	}
}

// P9.1: each plan there is, and those around: where it is right the zero inode is, and its first and last data page alone are page numbers.
func TestRightInEachPlan(t *testing.T) {
	for pages := range 520 {
		for inodes := range 135 {
			p, data := plan.Plan{Pages: pages, Inodes: inodes}, 43+(inodes+1)/2
			right := inodes >= 1 && inodes <= 128 && pages <= 512 && data < pages
			wantRightIs(t, inode.Inode{}, p, right)
			wantRightIs(t, inode.Inode{Kind: api.File}, p, right)
			wantRightIs(t, inode.Inode{Kind: api.File, Direct: [4]int{0, data}}, p, right)
			wantRightIs(t, inode.Inode{Kind: api.Dir, Ind: pages - 1}, p, right)
			wantRightIs(t, inode.Inode{Kind: api.File, Direct: [4]int{0, 0, data - 1}}, p, false)
			wantRightIs(t, inode.Inode{Kind: api.Link, Dind: pages}, p, false)
		}
	}
}
