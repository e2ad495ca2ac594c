package check_test

import (
	"fmt"
	"slices"
	"testing"

	"narthex/api"
	"narthex/check"
	"narthex/dir"
	"narthex/file"
	"narthex/inode"
)

// P15.1: the document's example: a volume that was just formatted, of many plans.
func TestExample(t *testing.T) {
	for _, inodes := range []int{1, 2, 3, 10, 11, 127, 128} {
		for _, room := range []int{1, 2, 60, 350} {
			_, x := made(t, tableAt+(inodes+1)/2+room, inodes)
			has(t, fmt.Sprint(inodes, " inodes, ", room, " pages"), x.Volume())
		}
	}
	_, x := made(t, 512, 1)
	has(t, "all that a disk may have", x.Volume())
}

// P15.1: the sample, and what is done to it, is a tree; also when it is brought up again.
func TestSample(t *testing.T) {
	d, x := sample(t)
	has(t, "sample", x.Volume())
	has(t, "brought up again", spoilt(t))
	must(t, x.Unlink(aDir, "n7"), x.Rename(aDir, "sub", empty, "sub"), x.Resize(big, 2304), x.Rmdir(empty, "sub"), x.Unlink(root, "link"))
	has(t, "kept", x.Volume())
	must(t, x.Sync())
	has(t, "synced", x.Volume())
	d.Crash()
	has(t, "behind a crash", mounted(t, d))
}

// P15.1: the constants' values.
func TestConstants(t *testing.T) {
	l := []int{check.Bits, check.Wrong, check.Garbage, check.Twice, check.Unmarked, check.Lost, check.Beyond, check.Dangling, check.Doubled, check.Links, check.Orphan}
	for k, n := range l {
		if n != k+1 {
			t.Errorf("%d is %d", k+1, n)
		}
	}
}

// P15.1, P15.2: each inode's bit, of those that are taken and those that aren't, one by one and two at once.
func TestBits(t *testing.T) {
	for i := 1; i <= inodes; i++ {
		has(t, fmt.Sprint("bit of ", i), spoilt(t, inodeBit(i)), ofInode(check.Bits, i))
		for k := i + 1; k <= inodes; k++ {
			has(t, fmt.Sprint("bits of ", k, i), spoilt(t, inodeBit(k), inodeBit(i)), ofInode(check.Bits, i), ofInode(check.Bits, k))
		}
	}
	for bit := inodes; bit < 512; bit++ {
		has(t, fmt.Sprint("bit ", bit, ", which is no inode's"), spoilt(t, turned(inodeBitsAt, bit)))
	}
}

// P15.1: an inode of which the Kind alone is another one: the bit is as it was.
func TestBitsByKind(t *testing.T) {
	has(t, "a Kind that came", spoilt(t, kind(spare, api.File), links(spare, 1)), ofInode(check.Bits, spare), ofInode(check.Orphan, spare))
	v := spoilt(t, field(aLink, 0, 8, 0), field(aLink, 8, 8, 0), field(aLink, 16, 8, 0))
	has(t, "a Kind that went", v, ofInode(check.Bits, aLink), lost(where(t, aLink, 0))[0], of(check.Dangling, root, aLink))
}

// P15.1: each way in which an inode may not be right, with none of its pages used.
func TestWrong(t *testing.T) {
	page := where(t, one, 0)
	for what, s := range map[string]spoil{
		"Kind 4": kind(one, 4), "Kind 9": kind(one, 9), "Kind 255": kind(one, 255),
		"Perm 512": perm(one, 512), "Perm 65535": perm(one, 65535),
		"Size above": size(one, api.MaxFile+1), "Size far above": size(one, 1<<32-1),
		"Direct 1": leads(one, 1, 1), "Direct of the journal": leads(one, 2, inodeBitsAt-1), "Direct of bits": leads(one, 3, dataBitsAt),
		"Direct of inodes": leads(one, 1, tableAt), "Direct ahead of the data": leads(one, 1, dataAt-1), "Direct behind all": leads(one, 1, pages), "Direct far behind": leads(one, 1, 65535),
		"Ind 1": leads(one, ind, 1), "Ind ahead of the data": leads(one, ind, dataAt-1), "Ind behind all": leads(one, ind, pages),
		"Dind 1": leads(one, dind, 1), "Dind ahead of the data": leads(one, dind, dataAt-1), "Dind behind all": leads(one, dind, 65535),
	} {
		has(t, what, spoilt(t, s), ofInode(check.Wrong, one), ofPage(check.Lost, page))
	}
	for _, n := range []int{41, 65535} {
		has(t, fmt.Sprint("Links ", n), spoilt(t, links(one, n)), ofInode(check.Wrong, one), ofPage(check.Lost, page), of(check.Links, one, 19))
	}
	has(t, "no page of its own", spoilt(t, perm(aLink, 600), leads(aLink, 0, 0)), ofInode(check.Wrong, aLink), ofPage(check.Lost, where(t, aLink, 0)))
}

// P15.1: what is right still: the greatest numbers, and bytes of the half that are no number of the inode.
func TestNotWrong(t *testing.T) {
	for what, s := range map[string]spoil{
		"Perm 0": perm(one, 0), "Perm 511": perm(one, 511), "Uid 65535": field(one, 4, 2, 65535), "Size": size(one, api.MaxFile),
		"byte 1": field(one, 1, 1, 255), "the last bytes": field(one, 24, 8, -1), "byte 1 of none": field(spare, 1, 1, 255), "the last bytes of none": field(spare, 24, 8, -1),
		"the half that is no inode's": bytesAt(tableAt+inodes/2, 32, "\x02\x00\xff\xff\xff\xff\xff\xff"),
	} {
		has(t, what, spoilt(t, s))
	}
}

// P15.1: an inode of Kind None of which all else isn't 0: it isn't right, and isn't there.
func TestWrongNone(t *testing.T) {
	page := where(t, one, 0)
	for from := 2; from < 24; from++ {
		what := fmt.Sprint("byte ", from)
		has(t, what, spoilt(t, field(spare, from, 1, 1)), ofInode(check.Wrong, spare))
		has(t, what, spoilt(t, field(spare, from, 1, 255), inodeBit(spare)), ofInode(check.Bits, spare), ofInode(check.Wrong, spare))
	}
	v := spoilt(t, links(spare, 5), leads(spare, 0, page), leads(spare, ind, page+1), size(spare, 5), dataBit(pages-1))
	has(t, "it uses no pages, and is no orphan", v, ofInode(check.Wrong, spare), ofPage(check.Lost, pages-1))
}

// P15.1: an inode that isn't right uses no pages, of whatever depth, has none behind its Size, and none of them twice; it is there all the same.
func TestWrongUsesNoPages(t *testing.T) {
	d, x := sample(t)
	v := x.Volume()
	l := lost(at(t, v, big, 0), at(t, v, big, 3), at(t, v, big, ind), at(t, v, big, ind, 0), at(t, v, big, ind, 31), at(t, v, big, dind),
		at(t, v, big, dind, 0), at(t, v, big, dind, 0, 0), at(t, v, big, dind, 0, 31), at(t, v, big, dind, 31), at(t, v, big, dind, 31, 31))
	spoils(d, perm(big, 512), size(big, 5), leads(big, 1, where(t, one, 0)))
	has(t, "big", v, append([]check.Problem{ofInode(check.Wrong, big)}, l...)...)
}

// P15.1: a Dir that isn't right has its entries still: what they lead to is come to.
func TestWrongDir(t *testing.T) {
	v := spoilt(t, perm(aDir, 512))
	var l []int
	for k := range 5 {
		l = append(l, at(t, v, aDir, min(k, ind), make([]int, max(0, k-3))...))
	}
	want := append([]check.Problem{ofInode(check.Wrong, aDir)}, lost(append(l, at(t, v, aDir, ind))...)...)
	has(t, "Perm", v, want...)
	has(t, "and Links", spoilt(t, perm(aDir, 512), links(aDir, 41)), append(want, of(check.Links, aDir, 3))...)
}

// P15.1: a Dir of which a page number leads nowhere: its slots are none.
func TestWrongDirWithoutPages(t *testing.T) {
	for _, n := range []int{1, tableAt, dataAt - 1, pages, 65535} {
		l, e := check.Volume(spoilt(t, leads(aDir, 2, n)))
		if e != api.OK || !slices.Equal(l[:2], []check.Problem{ofInode(check.Wrong, aDir), ofInode(check.Garbage, aDir)}) {
			t.Errorf("Direct %d: %v, %d", n, l, e)
		}
		numbers := where(t, aDir, ind)
		page := where(t, aDir, ind, 0)
		has(t, "a number in Ind", spoilt(t, number(numbers, 0, n)), append([]check.Problem{ofInode(check.Garbage, aDir), ofPage(check.Lost, page)}, underGarbage()...)...)
		has(t, "behind its Size", spoilt(t, number(numbers, 1, n)), of(check.Beyond, aDir, n))
	}
}

// P15.1: of a File, a number in a page of numbers that leads to no data page uses nothing, nor do the numbers that may stand there.
func TestNumbersThatAreNone(t *testing.T) {
	for _, n := range []int{1, inodeBitsAt, tableAt, tableAt + 1, dataAt - 1, pages, 65535} {
		has(t, "in Ind", spoilt(t, number(where(t, big, ind), 31, n)), lost(where(t, big, ind, 31))...)
		has(t, "in Dind", spoilt(t, number(where(t, big, dind), 31, n)), lost(where(t, big, dind, 31), where(t, big, dind, 31, 31))...)
		has(t, "beneath Dind", spoilt(t, number(where(t, big, dind, 0), 31, n)), lost(where(t, big, dind, 0, 31))...)
	}
}

// underGarbage is what follows from Garbage in aDir: what lies there isn't come to, and only other names count.
func underGarbage() []check.Problem {
	return []check.Problem{of(check.Links, aDir, 2), of(check.Links, aFile, 1), of(check.Links, one, 1), ofInode(check.Orphan, sub)}
}

// P15.1: a slot that is none, each of a directory's, whatever is wrong with it.
func TestGarbageInSlots(t *testing.T) {
	want := append([]check.Problem{ofInode(check.Garbage, aDir)}, underGarbage()...)
	for i := range 20 {
		k := i / 4
		page := where(t, aDir, min(k, ind), make([]int, max(0, k-3))...)
		has(t, fmt.Sprint("slot ", i), spoilt(t, bytesAt(page, i%4*16+15, "x"), bytesAt(page, i%4*16+2, "\x01")), want...)
	}
	page := where(t, aDir, 1)
	for _, s := range []string{"\x00\x00\x01x", "\x00\x00\x00\x01", "\x00\x08\x00\x00", "\x00\x08\x0e", "\x00\x08\xff", "\x00\x08\x02.", "\x00\x08\x01\x00", "\x00\x08\x02x/", "\x00\x08\x02..", "\x00\x08\x03\x00ab"} {
		text := (s + "\x00\x00\x00\x00\x00\x00\x00\x00\x00\x00\x00\x00\x00\x00\x00\x00")[:16]
		has(t, fmt.Sprintf("%q", s), spoilt(t, bytesAt(page, 32, text)), want...)
	}
}

// P15.1: a Size that is no multiple of 64, above and below what it was, though the slots are right.
func TestGarbageBySize(t *testing.T) {
	want := append([]check.Problem{ofInode(check.Garbage, aDir)}, underGarbage()...)
	for _, n := range []int{321, 340, 383, 385, 64*1060 - 1} {
		has(t, fmt.Sprint("Size ", n), spoilt(t, size(aDir, n)), want...)
	}
	for _, n := range []int{257, 272, 319} {
		has(t, fmt.Sprint("Size ", n), spoilt(t, size(aDir, n)), want...)
	}
	for _, n := range []int{1, 16, 63} {
		has(t, fmt.Sprint("Size ", n, " of an empty one"), spoilt(t, size(empty, n)), ofInode(check.Garbage, empty))
	}
	for _, n := range []int{384, 64 * 1060} {
		has(t, fmt.Sprint("Size ", n), spoilt(t, size(aDir, n)))
	}
	for _, n := range []int{64*1060 + 1, 1<<32 - 1} {
		has(t, "above all", spoilt(t, size(empty, n)), ofInode(check.Wrong, empty), ofInode(check.Garbage, empty))
	}
	has(t, "a File's", spoilt(t, size(aLink, 9)))
}

// P15.1: Garbage in the root: nothing else is come to.
func TestGarbageInRoot(t *testing.T) {
	want := []check.Problem{ofInode(check.Garbage, root), of(check.Links, root, 2)}
	for _, ino := range []int{aDir, sub, aFile, aLink, big, empty, one} {
		want = append(want, ofInode(check.Orphan, ino))
	}
	has(t, "slot", spoilt(t, bytesAt(where(t, root, 0), 0, "\x00\x00")), want...)
	has(t, "Size", spoilt(t, size(root, 129)), want...)
}

// P15.1: Garbage of what isn't come to, and in two directories; what their entries lead to isn't asked.
func TestMoreGarbage(t *testing.T) {
	_, x := sample(t)
	v := x.Volume()
	must(t, v.Do(func(s *file.Step) {
		i := s.New(inode.Inode{Kind: api.Dir, Links: 2})
		dir.Of(s, i).Add("x", 77)
		dir.Of(s, i).Add("root", root)
		s.Write(i, 40, "x")
	}))
	has(t, "an orphan", v, ofInode(check.Garbage, spare), ofInode(check.Orphan, spare))
	must(t, v.Do(func(s *file.Step) { s.Write(empty, 0, "garbage"); s.Truncate(empty, 64) }))
	has(t, "two", v, ofInode(check.Garbage, empty), ofInode(check.Garbage, spare), ofInode(check.Orphan, spare))
}

// P15.1, P15.2: each data page's bit, of those that are used and those that aren't; what isn't a data page's isn't asked.
func TestMarks(t *testing.T) {
	_, x := sample(t)
	unmarked := 0
	for n := dataAt; n < pages; n++ {
		p, _ := x.Volume().Page(dataBitsAt)
		want := ofPage(check.Lost, n)
		if bit := n - dataAt; p[bit/8]>>(bit%8)&1 == 1 {
			want = ofPage(check.Unmarked, n)
			unmarked++
		}
		has(t, fmt.Sprint("page ", n), spoilt(t, dataBit(n)), want)
	}
	// dir, root, link, file, big, one
	if unmarked != 6+2+1+2+11+1 {
		t.Errorf("%d pages are used", unmarked)
	}
	for bit := pages - dataAt; bit < 512; bit++ {
		has(t, fmt.Sprint("bit ", bit, ", which is no page's"), spoilt(t, turned(dataBitsAt, bit)))
	}
	a, b := where(t, big, dind, 31), where(t, one, 0)
	has(t, "two and two", spoilt(t, dataBit(a), dataBit(pages-1), dataBit(b), dataBit(pages-2)),
		ofPage(check.Unmarked, min(a, b)), ofPage(check.Unmarked, max(a, b)), ofPage(check.Lost, pages-2), ofPage(check.Lost, pages-1))
}

// P15.1: a data page that is used twice and more, for whatever.
func TestTwice(t *testing.T) {
	page, numbers, outer, inner := where(t, one, 0), where(t, big, ind), where(t, big, dind), where(t, big, dind, 31)
	first, last := where(t, big, ind, 0), where(t, big, ind, 31)
	deep := where(t, big, dind, 31, 31)
	file := where(t, aFile, 0)
	for _, c := range []struct {
		what string
		l    []spoil
		want []check.Problem
	}{
		{"two inodes'", []spoil{leads(aLink, 0, page)}, []check.Problem{ofPage(check.Twice, page), ofPage(check.Lost, where(t, aLink, 0))}},
		{"one inode's, by Direct", []spoil{leads(big, 1, where(t, big, 0))}, []check.Problem{ofPage(check.Twice, where(t, big, 0))}},
		{"one inode's, in Ind", []spoil{number(numbers, 5, first)}, []check.Problem{ofPage(check.Twice, first)}},
		{"one inode's, by Ind and beneath Dind", []spoil{number(inner, 30, first)}, []check.Problem{ofPage(check.Twice, first)}},
		{"three times", []spoil{leads(big, 1, page), leads(big, 2, page), number(inner, 0, page)}, []check.Problem{ofPage(check.Twice, page)}},
		{"Ind and bytes", []spoil{leads(big, 1, numbers)}, []check.Problem{ofPage(check.Twice, numbers)}},
		{"another's Ind and bytes", []spoil{leads(aFile, 1, numbers), dataBit(where(t, aFile, 1))}, []check.Problem{ofPage(check.Twice, numbers)}},
		{"another's Dind and bytes", []spoil{leads(aFile, 1, outer)}, []check.Problem{ofPage(check.Twice, outer), ofPage(check.Lost, where(t, aFile, 1))}},
		{"beneath Dind, and bytes", []spoil{leads(aFile, 1, inner)}, []check.Problem{ofPage(check.Twice, inner), ofPage(check.Lost, where(t, aFile, 1))}},
		{"Ind and Dind", []spoil{leads(big, ind, outer), size(big, 64*1060)}, append([]check.Problem{ofPage(check.Twice, where(t, big, dind, 0)), ofPage(check.Twice, outer), ofPage(check.Twice, inner)}, lost(numbers, first, last)...)},
		{"Ind in itself", []spoil{number(numbers, 7, numbers)}, []check.Problem{ofPage(check.Twice, numbers)}},
		{"Dind in itself", []spoil{number(outer, 7, outer)}, []check.Problem{ofPage(check.Twice, where(t, big, dind, 0)), ofPage(check.Twice, outer), ofPage(check.Twice, inner)}},
		{"beneath Dind in itself", []spoil{number(inner, 7, inner)}, []check.Problem{ofPage(check.Twice, inner)}},
		{"beneath Dind twice", []spoil{number(outer, 7, inner)}, []check.Problem{ofPage(check.Twice, inner), ofPage(check.Twice, deep)}},
		{"not marked", []spoil{leads(aFile, 1, page), dataBit(page)}, []check.Problem{ofPage(check.Twice, page), ofPage(check.Unmarked, page), ofPage(check.Lost, where(t, aFile, 1))}},
		{"two of them", []spoil{leads(big, 1, page), leads(big, 2, file)}, []check.Problem{ofPage(check.Twice, min(page, file)), ofPage(check.Twice, max(page, file))}},
	} {
		slices.SortFunc(c.want, func(a, b check.Problem) int { return (a.Kind-b.Kind)*1000 + a.N - b.N })
		has(t, c.what, spoilt(t, c.l...), c.want...)
	}
}

// P15.1: a page number of 0 is none: no page 0 is used, and none beneath it.
func TestHoles(t *testing.T) {
	has(t, "Direct", spoilt(t, leads(big, 3, 0)), lost(where(t, big, 3))...)
	has(t, "Ind", spoilt(t, leads(big, ind, 0)), lost(where(t, big, ind), where(t, big, ind, 0), where(t, big, ind, 31))...)
	has(t, "beneath Dind", spoilt(t, number(where(t, big, dind), 31, 0)), lost(where(t, big, dind, 31), where(t, big, dind, 31, 31))...)
	has(t, "a directory's", spoilt(t, leads(aDir, 3, 0)), lost(where(t, aDir, 3))[0], of(check.Links, one, 15))
}

// P15.1: pages behind an inode's Size, for each Size about the pages it has: pages of numbers lie nowhere, and count not.
func TestBeyond(t *testing.T) {
	l := []int{where(t, big, 0), where(t, big, 3), where(t, big, ind, 0), where(t, big, ind, 31), where(t, big, dind, 0, 0), where(t, big, dind, 0, 31), where(t, big, dind, 31, 31)}
	for _, n := range []int{0, 1, 64, 65, 128, 192, 193, 256, 257, 300, 320, 2240, 2241, 2304, 2305, 4288, 4289, 64 * 1059, 64*1059 + 1, api.MaxFile} {
		var want []check.Problem
		for k, index := range bigPages() {
			if 64*index >= n {
				want = append(want, of(check.Beyond, big, l[k]))
			}
		}
		slices.SortFunc(want, func(a, b check.Problem) int { return a.N - b.N })
		has(t, fmt.Sprint("Size ", n), spoilt(t, size(big, n)), want...)
	}
	page := where(t, aFile, 1)
	has(t, "by Direct", spoilt(t, size(aFile, 64)), of(check.Beyond, aFile, page))
	has(t, "a byte of it", spoilt(t, size(aFile, 65)))
	has(t, "by Ind", spoilt(t, size(aDir, 256)), of(check.Beyond, aDir, where(t, aDir, ind, 0)), of(check.Links, one, 15))
}

// P15.1: one page twice behind one Size is told once; of two inodes, of each.
func TestBeyondOnce(t *testing.T) {
	page := where(t, one, 0)
	has(t, "twice", spoilt(t, leads(one, 1, page), leads(one, 2, page)), ofPage(check.Twice, page), of(check.Beyond, one, page))
	has(t, "of each", spoilt(t, leads(aLink, 1, page), leads(empty, 0, page)), ofPage(check.Twice, page), of(check.Beyond, aLink, page), of(check.Beyond, empty, page))
}
