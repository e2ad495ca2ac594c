package span_test

import (
	"math"
	"slices"
	"testing"

	"narthex/span"
)

// fromTo is the pages from one on, ahead of another.
func fromTo(from, to int) (l []int) {
	for i := from; i < to; i++ {
		l = append(l, i)
	}
	return l
}

// P10.1: how many pages of numbers, written out.
func TestMetaKnown(t *testing.T) {
	for _, c := range []struct {
		name string
		l    []int
		want int
	}{
		{"none", nil, 0},
		{"an empty list", []int{}, 0},
		{"one of depth 0", []int{0}, 0},
		{"the last of depth 0", []int{3}, 0},
		{"all of depth 0", []int{0, 1, 2, 3}, 0},
		{"the first of depth 1", []int{4}, 1},
		{"the last of depth 1", []int{35}, 1},
		{"all of depth 1", fromTo(4, 36), 1},
		{"the first of depth 2", []int{36}, 2},
		{"the last of depth 2", []int{1059}, 2},
		{"one in the midst of depth 2", []int{500}, 2},
		{"all under the first page of Dind", fromTo(36, 68), 2},
		{"all under the second page of Dind", fromTo(68, 100), 2},
		{"all under the last page of Dind", fromTo(1028, 1060), 2},
		{"two under two pages of Dind", []int{67, 68}, 3},
		{"all of depth 2", fromTo(36, 1060), 33},
		{"all", fromTo(0, 1060), 34},
		{"depths 0 and 1", []int{2, 9}, 1},
		{"depths 0 and 2", []int{2, 1059}, 2},
		{"depths 1 and 2", []int{35, 36}, 3},
		{"not rising", []int{1059, 36, 4, 0}, 4},
		{"twice of depth 0", []int{1, 1}, 0},
		{"twice of depth 1", []int{4, 4, 5, 4}, 1},
		{"twice of depth 2", []int{68, 68, 69, 68}, 2},
		{"below 0", []int{-1}, 0},
		{"far below 0", []int{math.MinInt, math.MinInt + 4, math.MinInt + 36}, 0},
		{"too great", []int{1060}, 0},
		{"far too great", []int{math.MaxInt, 1<<32 + 4, 1<<32 + 36}, 0},
		{"those that can't be, twice", []int{-1, -1, 1060, 1060}, 0},
		{"those that can't be, among others", []int{-1, 4, 1060, 36, math.MaxInt}, 3},
		{"those that would stand for Ind and Dind", []int{-2, -1}, 0},
		{"a file of 2305 bytes", []int{36}, 2},
	} {
		if got := span.Meta(c.l...); got != c.want {
			t.Errorf("%s: %d, not %d", c.name, got, c.want)
		}
	}
}

// P10.1: each page by itself, each two that are side by side, and all up to each.
func TestMetaSweep(t *testing.T) {
	for i := -40; i <= 1100; i++ {
		for _, l := range [][]int{{i}, {i, i + 1}, {i + 1, i}, {i, i}, {i, 4}, {i, 36}, {1059, i}, fromTo(-3, i), fromTo(i, 1063)} {
			if got, want := span.Meta(l...), wantMeta(l); got != want {
				t.Errorf("up to or from %d, %d pages: %d, not %d", i, len(l), got, want)
			}
		}
	}
}

// P10.1: lists of any pages, of some that can't be too, in whatever order; and the list stays as it was.
func TestMetaNoise(t *testing.T) {
	n := noise{11}
	far := farInts()
	for range 20000 {
		l := make([]int, n.below(12))
		for k := range l {
			switch n.below(8) {
			case 0:
				l[k] = far[n.below(len(far))]
			case 1, 2:
				l[k] = n.below(40)
			case 3:
				l[k] = n.below(120) - 10
			default:
				l[k] = n.below(1080) - 10
			}
		}
		kept := slices.Clone(l)
		if got, want := span.Meta(l...), wantMeta(l); got != want {
			t.Fatalf("Meta(%v): %d, not %d", l, got, want)
		}
		slices.Reverse(l)
		if got, want := span.Meta(l...), wantMeta(kept); got != want {
			t.Fatalf("Meta(%v): %d, not %d", l, got, want)
		}
		slices.Reverse(l)
		if !slices.Equal(l, kept) {
			t.Fatalf("of the list %v came %v", kept, l)
		}
	}
}

// P10.1: no call of Meta hangs on one ahead of it.
func TestMetaAgain(t *testing.T) {
	all := fromTo(0, 1060)
	for range 3 {
		if got := span.Meta(all...); got != 34 {
			t.Errorf("all: %d", got)
		}
		if got := span.Meta(0); got != 0 {
			t.Errorf("the first: %d", got)
		}
	}
}
