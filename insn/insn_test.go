package insn_test

import (
	"math"
	"slices"
	"strings"
	"testing"

	"narthex/api"
	"narthex/insn"
)

// P16.1: the document's example.
func TestExample(t *testing.T) {
	i := insn.Insn{Op: insn.MovImm, Dst: 3, Imm: -1}
	s := string([]byte{2, 48, 0, 0, 255, 255, 255, 255})
	if got, e := insn.Encode(i); got != s || e != api.OK {
		t.Errorf("Encode(%+v): %q, %d", i, got, e)
	}
	if l, e := insn.Decode(s); e != api.OK || !slices.Equal(l, []insn.Insn{i}) {
		t.Errorf("Decode(%q): %+v, %d", s, l, e)
	}
	if !insn.Right(i) {
		t.Errorf("%+v isn't right", i)
	}
}

// P16.1: each Op has the number that the document names, and no two have one.
func TestNumbers(t *testing.T) {
	seen := map[int]string{}
	for _, o := range ops {
		if o.named != o.number {
			t.Errorf("%s is %d, not %d", o.name, o.named, o.number)
		}
		if other, is := seen[o.number]; is {
			t.Errorf("%s and %s have one number", o.name, other)
		}
		seen[o.number] = o.name
	}
	if len(seen) != 34 {
		t.Errorf("%d Ops", len(seen))
	}
}

// P16.1: the bytes of one instruction of each Op, written out, and of all of them one behind the other.
func TestBytesOfEachOp(t *testing.T) {
	var l []insn.Insn
	var all string
	for _, o := range ops {
		if !insn.Right(o.sample) {
			t.Errorf("%s: %+v isn't right", o.name, o.sample)
		}
		if s, e := insn.Encode(o.sample); s != o.bytes || e != api.OK {
			t.Errorf("%s: Encode(%+v): %q, %d, not %q", o.name, o.sample, s, e, o.bytes)
		}
		if got, e := insn.Decode(o.bytes); e != api.OK || !slices.Equal(got, []insn.Insn{o.sample}) {
			t.Errorf("%s: Decode(%q): %+v, %d", o.name, o.bytes, got, e)
		}
		l, all = append(l, o.sample), all+o.bytes
	}
	if s, e := insn.Encode(l...); s != all || e != api.OK {
		t.Errorf("Encode of all: %q, %d, not %q", s, e, all)
	}
	if got, e := insn.Decode(all); e != api.OK || !slices.Equal(got, l) {
		t.Errorf("Decode of all: %+v, %d", got, e)
	}
}

// P16.1: the Ops with Imm and the jumps, written out, among all numbers from -1 to 300 and far ones.
func TestKinds(t *testing.T) {
	withImm := []int{2, 21, 22, 23, 24, 25, 26, 27, 37, 38, 39, 40}
	jumps := []int{32, 33, 34, 35, 36, 37, 38, 39, 40}
	all := []int{1, 2, 16, 17, 18, 19, 20, 21, 22, 23, 24, 25, 26, 27, 32, 33, 34, 35, 36, 37, 38, 39, 40, 48, 49, 50, 51, 52, 53, 54, 55, 56, 64, 80}
	numbers := append(farInts(), math.MinInt+1, math.MinInt+32, math.MaxInt-1, 1<<32+32, 1<<32+37, 1<<32+80, -1<<32+2, 256+2, 256+80)
	for n := -1; n <= 300; n++ {
		numbers = append(numbers, n)
	}
	for _, n := range numbers {
		if got, want := insn.HasImm(n), slices.Contains(withImm, n); got != want {
			t.Errorf("HasImm(%d): %v", n, got)
		}
		if got, want := insn.IsJump(n), slices.Contains(jumps, n); got != want {
			t.Errorf("IsJump(%d): %v", n, got)
		}
		// An instruction of which all else is 0 is right, whatever its Op is.
		i := insn.Insn{Op: n}
		if got, want := insn.Right(i), slices.Contains(all, n); got != want {
			t.Errorf("Right(%+v): %v", i, got)
		}
	}
}

// P16.1: numbers that are no Op, beside parts of all kinds.
func TestNoOp(t *testing.T) {
	for n := -1; n <= 300; n++ {
		if _, is := wantOp(n); is {
			continue
		}
		for _, o := range ops {
			i := o.sample
			i.Op = n
			refused(t, i)
		}
	}
	for _, n := range farInts() {
		if _, is := wantOp(n); !is {
			refused(t, insn.Insn{Op: n})
		}
	}
}

// edge is what one part may be, where an Op uses it; where not, 0 is right alone.
type edge struct {
	n  int
	is bool
}

// P16.1: each part of each Op by itself, on either side of its edges, where the other parts are 0 and where they aren't.
func TestEachPart(t *testing.T) {
	register := []edge{{-1, false}, {0, true}, {7, true}, {8, false}}
	off := []edge{{-32769, false}, {-32768, true}, {-1, true}, {0, true}, {32767, true}, {32768, false}}
	imm := []edge{{-2147483649, false}, {-2147483648, true}, {-1, true}, {0, true}, {2147483647, true}, {2147483648, false}}
	shift := []edge{{-2147483648, false}, {-1, false}, {0, true}, {63, true}, {64, false}, {2147483647, false}}
	for _, o := range ops {
		for _, i := range []insn.Insn{{Op: o.number}, o.sample} {
			for _, x := range register {
				i := i
				i.Dst = x.n
				asked(t, i, x.n == 0 || x.is && strings.Contains(o.uses, "d"))
			}
			for _, x := range register {
				i := i
				i.Src = x.n
				asked(t, i, x.n == 0 || x.is && strings.Contains(o.uses, "s"))
			}
			for _, x := range off {
				i := i
				i.Off = x.n
				asked(t, i, x.n == 0 || x.is && strings.Contains(o.uses, "o"))
			}
			l := imm
			if o.name == "ShlImm" || o.name == "ShrImm" {
				l = shift
			}
			for _, x := range l {
				i := i
				i.Imm = x.n
				asked(t, i, x.n == 0 || x.is && strings.Contains(o.uses, "i"))
			}
		}
	}
}

// P16.1: parts on either side of all edges, each beside each.
func TestAllParts(t *testing.T) {
	registers := []int{-1, 0, 1, 7, 8, 16}
	offs := []int{-32769, -32768, -1, 0, 32767, 32768}
	imms := []int{-2147483649, -2147483648, -1, 0, 1, 63, 64, 2147483647, 2147483648}
	for _, o := range ops {
		for _, dst := range registers {
			for _, src := range registers {
				for _, off := range offs {
					for _, imm := range imms {
						i := insn.Insn{Op: o.number, Dst: dst, Src: src, Off: off, Imm: imm}
						asked(t, i, wantOne(i))
					}
				}
			}
		}
	}
}

// P16.1: far numbers in one part: none is taken modulo what its bytes can tell.
func TestFarParts(t *testing.T) {
	for _, o := range ops {
		for _, n := range registerEdges() {
			i, k := o.sample, o.sample
			i.Dst, k.Src = n, n
			asked(t, i, wantOne(i))
			asked(t, k, wantOne(k))
		}
		for _, n := range offEdges() {
			i := o.sample
			i.Off = n
			asked(t, i, wantOne(i))
		}
		for _, n := range immEdges() {
			i := o.sample
			i.Imm = n
			asked(t, i, wantOne(i))
		}
	}
	// Two wrong registers may make up a byte that looks right.
	refused(t, insn.Insn{Op: insn.Mov, Dst: -1, Src: 16})
	refused(t, insn.Insn{Op: insn.Mov, Dst: 1, Src: -16})
	refused(t, insn.Insn{Op: insn.Mov, Dst: 1 << 60, Src: 3})
}

// asked holds all that is told of one instruction against whether it is right.
func asked(t *testing.T, i insn.Insn, right bool) {
	t.Helper()
	if !right {
		refused(t, i)
		return
	}
	if !insn.Right(i) {
		t.Errorf("Right(%+v) is false", i)
	}
	s, e := insn.Encode(i)
	if want := wantBytes(i); s != want || e != api.OK {
		t.Errorf("Encode(%+v): %q, %d, not %q", i, s, e, want)
	}
	if l, e := insn.Decode(wantBytes(i)); e != api.OK || !slices.Equal(l, []insn.Insn{i}) {
		t.Errorf("Decode(%q): %+v, %d, not %+v", wantBytes(i), l, e, i)
	}
}

// refused asks for false, and for "" and EINVAL.
func refused(t *testing.T, l ...insn.Insn) {
	t.Helper()
	if insn.Right(l...) {
		t.Errorf("Right(%+v) is true", l)
	}
	if s, e := insn.Encode(l...); s != "" || e != api.EINVAL {
		t.Errorf("Encode(%+v): %q, %d", l, s, e)
	}
}

// P16.1: from none to two more instructions than there may be.
func TestCounts(t *testing.T) {
	refused(t)
	refused(t, []insn.Insn{}...)
	for n := 1; n <= 66; n++ {
		l := samples(n)
		if n > 64 {
			refused(t, l...)
			continue
		}
		if !insn.Right(l...) {
			t.Errorf("%d instructions aren't right", n)
		}
		s, e := insn.Encode(l...)
		if len(s) != 8*n || s != wantBytes(l...) || e != api.OK {
			t.Errorf("%d instructions: Encode: %q, %d", n, s, e)
		}
		if got, e := insn.Decode(s); e != api.OK || !slices.Equal(got, l) {
			t.Errorf("%d instructions: Decode: %+v, %d", n, got, e)
		}
	}
	for _, n := range []int{128, 256, 320, 1000, 65537} {
		refused(t, slices.Repeat([]insn.Insn{{Op: insn.Exit}}, n)...)
	}
}

// P16.1: one that isn't right among right ones, at each place.
func TestOneWrong(t *testing.T) {
	wrong := []insn.Insn{
		{}, {Op: 3}, {Op: -1}, {Op: 256 + insn.Exit}, {Op: insn.Exit, Imm: 1}, {Op: insn.Mov, Dst: 8}, {Op: insn.Add, Src: -1},
		{Op: insn.Mul, Off: 1}, {Op: insn.Jump, Off: 32768}, {Op: insn.ShlImm, Imm: 64}, {Op: insn.MovImm, Imm: -2147483649},
	}
	for _, n := range []int{1, 2, 3, 63, 64} {
		for at := range n {
			for _, i := range wrong {
				l := samples(n)
				l[at] = i
				refused(t, l...)
			}
		}
	}
}
