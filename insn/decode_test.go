package insn_test

import (
	"slices"
	"strings"
	"testing"

	"narthex/api"
	"narthex/insn"
)

const exit = "\x50\x00\x00\x00\x00\x00\x00\x00"

// none asks for no instructions, and EINVAL.
func none(t *testing.T, s string) {
	t.Helper()
	if l, e := insn.Decode(s); l != nil || e != api.EINVAL {
		t.Errorf("Decode of %d bytes, %q: %+v, %d", len(s), s, l, e)
	}
}

// P16.1: bytes of each length: only whole instructions, of which there are from 1 to 64.
func TestDecodeOfLengths(t *testing.T) {
	long := strings.Repeat(exit, 70)
	for n := range len(long) {
		s := long[:n]
		if n%8 != 0 || n == 0 || n > 512 {
			none(t, s)
			continue
		}
		if l, e := insn.Decode(s); e != api.OK || !slices.Equal(l, slices.Repeat([]insn.Insn{{Op: 80}}, n/8)) {
			t.Errorf("Decode of %d bytes: %+v, %d", n, l, e)
		}
	}
	none(t, long[:520])
	none(t, strings.Repeat(exit, 128))
	none(t, strings.Repeat(exit, 1<<16))
	none(t, strings.Repeat(exit, 1<<16)+"\x50")
	none(t, strings.Repeat("\x00", 8))
	none(t, strings.Repeat("\xff", 8))
	none(t, strings.Repeat("\x00", 512))
}

// P16.1: each byte of an instruction of each Op, changed to each value.
func TestDecodeOfEachByte(t *testing.T) {
	for _, o := range ops {
		for _, s := range []string{o.bytes, wantBytes(insn.Insn{Op: o.number})} {
			for k := range s {
				for c := range 256 {
					b := []byte(s)
					b[k] = byte(c)
					decoded(t, string(b))
				}
			}
		}
	}
}

// decoded holds Decode against the model, and, of what is right, Encode against the bytes.
func decoded(t *testing.T, s string) {
	t.Helper()
	got, e := insn.Decode(s)
	want, wantErr := wantDecode(s)
	if e != wantErr || !slices.Equal(got, want) || want == nil && got != nil {
		t.Fatalf("Decode(%q): %+v, %d, not %+v, %d", s, got, e, want, wantErr)
	}
	if e != api.OK {
		return
	}
	if again, e := insn.Encode(got...); again != s || e != api.OK {
		t.Fatalf("Encode of Decode(%q): %q, %d", s, again, e)
	}
}

// P16.1: a register of 8 or more, of each Op, alone, and among right instructions.
func TestDecodeOfHalves(t *testing.T) {
	for _, o := range ops {
		for k := range 256 {
			dst, src := k/16, k%16
			s := o.bytes[:1] + string([]byte{byte(k)}) + o.bytes[2:]
			if dst < 8 && src < 8 && (dst == 0 || strings.Contains(o.uses, "d")) && (src == 0 || strings.Contains(o.uses, "s")) {
				want := o.sample
				want.Dst, want.Src = dst, src
				if l, e := insn.Decode(s); e != api.OK || !slices.Equal(l, []insn.Insn{want}) {
					t.Errorf("Decode(%q): %+v, %d", s, l, e)
				}
				continue
			}
			none(t, s)
			none(t, s+exit)
			none(t, exit+s)
			none(t, exit+s+exit)
		}
	}
}

// P16.1: bytes where the Op uses nothing, written out.
func TestDecodeOfUnused(t *testing.T) {
	for _, s := range []string{
		"\x01\x35\x00\x01\x00\x00\x00\x00", // Mov: Off, Imm
		"\x01\x35\x01\x00\x00\x00\x00\x00",
		"\x01\x35\x00\x00\x00\x00\x00\x01",
		"\x01\x35\x00\x00\x01\x00\x00\x00",
		"\x02\x31\x00\x00\x00\x00\x00\x01", // MovImm: Src, Off
		"\x02\x30\xff\xff\x00\x00\x00\x01",
		"\x14\x46\x00\x00\x00\x00\x01\x00", // Mul: Imm
		"\x1a\x61\x00\x00\x00\x00\x00\x3f", // ShlImm: Src, Off, a shift of more than 63, or below 0
		"\x1a\x60\x00\x01\x00\x00\x00\x3f",
		"\x1a\x60\x00\x00\x00\x00\x00\x40",
		"\x1a\x60\x00\x00\x00\x00\x01\x00",
		"\x1b\x60\x00\x00\x01\x00\x00\x00",
		"\x1b\x60\x00\x00\xff\xff\xff\xff",
		"\x20\x10\x00\x01\x00\x00\x00\x00", // Jump: Dst, Src, Imm
		"\x20\x01\x00\x01\x00\x00\x00\x00",
		"\x20\x00\x00\x01\x00\x00\x00\x01",
		"\x21\x12\x00\x01\x00\x00\x00\x01", // Jeq: Imm
		"\x25\x12\x00\x01\x00\x00\x00\x01", // JeqImm: Src
		"\x30\x51\x00\x03\x00\x00\x00\x00", // LoadCtx: Src, Imm
		"\x30\x50\x00\x03\x00\x00\x00\x01",
		"\x31\x15\x00\x04\x00\x00\x00\x00", // StoreCtx: Dst, Imm
		"\x31\x05\x00\x04\x80\x00\x00\x00",
		"\x32\x61\x00\x01\x00\x00\x00\x00", // LoadCtxAt: Off
		"\x33\x21\x00\x07\x00\x00\x00\x00", // LoadStack: Src
		"\x34\x12\x00\x07\x00\x00\x00\x00", // StoreStack: Dst
		"\x35\x17\x00\x01\x00\x00\x00\x00", // LoadStackAt: Off
		"\x36\x71\x80\x00\x00\x00\x00\x00", // StoreStackAt: Off
		"\x37\x23\x00\x01\x00\x00\x00\x01", // LoadVal: Imm
		"\x38\x32\x00\x01\x00\x01\x00\x00", // StoreVal: Imm
		"\x40\x10\x00\x00\x00\x00\x00\x04", // Call: Dst, Src, Off
		"\x40\x01\x00\x00\x00\x00\x00\x04",
		"\x40\x00\x00\x01\x00\x00\x00\x04",
		"\x50\x10\x00\x00\x00\x00\x00\x00", // Exit: all
		"\x50\x01\x00\x00\x00\x00\x00\x00",
		"\x50\x00\x00\x01\x00\x00\x00\x00",
		"\x50\x00\x00\x00\x00\x00\x00\x01",
	} {
		none(t, s)
		for _, n := range []int{1, 2, 62, 63} {
			for at := range n + 1 {
				none(t, strings.Repeat(exit, at)+s+strings.Repeat(exit, n-at))
			}
		}
	}
}

// P16.1: programs of any instructions, right or nearly so: Decode of Encode gives the same ones.
func TestRandomPrograms(t *testing.T) {
	c := chance(16)
	right := 0
	for range 20000 {
		l := c.program()
		was := slices.Clone(l)
		if !wantRight(l...) {
			refused(t, l...)
		} else {
			right++
			if !insn.Right(l...) {
				t.Fatalf("Right(%+v) is false", l)
			}
			s, e := insn.Encode(l...)
			if s != wantBytes(l...) || e != api.OK {
				t.Fatalf("Encode(%+v): %q, %d", l, s, e)
			}
			if got, e := insn.Decode(s); e != api.OK || !slices.Equal(got, l) {
				t.Fatalf("Decode of Encode(%+v): %+v, %d", l, got, e)
			}
		}
		if !slices.Equal(l, was) {
			t.Fatalf("of %+v came %+v", was, l)
		}
	}
	if right < 5000 || right > 15000 {
		t.Errorf("%d of 20000 programs are right", right)
	}
}

// P16.1: programs' bytes, spoilt or not: Encode of Decode gives the same ones.
func TestRandomBytes(t *testing.T) {
	c := chance(61)
	for range 20000 {
		l := make([]insn.Insn, c.below(67))
		for k := range l {
			l[k] = c.right()
		}
		b := []byte(wantBytes(l...))
		switch c.below(4) {
		case 0:
			b = b[:c.below(len(b)+1)]
		case 1:
			if len(b) > 0 {
				b[c.below(len(b))] = byte(c.below(256))
			}
		case 2:
			if len(b) > 0 {
				b[c.below(len(b))] ^= 1 << c.below(8)
			}
		}
		decoded(t, string(b))
	}
	for range 20000 {
		b := make([]byte, 8*(1+c.below(2)))
		for k := range b {
			b[k] = byte(c.below(256))
		}
		for k := 0; k < len(b); k += 8 {
			b[k] = byte(ops[c.below(34)].number)
			b[k+1] &= byte(c.of([]int{0x00, 0x07, 0x70, 0x77, 0xff}))
			clear(b[k+2 : k+2+c.below(7)])
		}
		decoded(t, string(b))
	}
}

// P16.1: a list that is handed in stays as it is, and so does what lies behind it; no two answers share memory.
func TestNothingShared(t *testing.T) {
	for _, n := range []int{0, 1, 3, 64, 65} {
		whole := samples(n + 4)
		was := slices.Clone(whole)
		l := whole[:n]
		insn.Right(l...)
		s, e := insn.Encode(l...)
		if !slices.Equal(whole, was) {
			t.Fatalf("of %+v came %+v", was, whole)
		}
		got, _ := insn.Decode(s)
		clear(l)
		if again, _ := insn.Decode(s); e == api.OK && (!slices.Equal(got, was[:n]) || !slices.Equal(again, was[:n])) {
			t.Errorf("Decode tells %+v and %+v, not %+v", got, again, was[:n])
		}
		clear(got)
		if again, _ := insn.Decode(s); e == api.OK && !slices.Equal(again, was[:n]) {
			t.Errorf("Decode tells %+v, not %+v", again, was[:n])
		}
	}
}
