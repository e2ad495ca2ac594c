package insn_test

import (
	"math"
	"slices"
	"strings"

	"narthex/api"
	"narthex/insn"
)

// chance is numbers that look like chance, the same in each run.
type chance uint32

func (c *chance) below(n int) int {
	*c = *c*1664525 + 1013904223
	return int(*c>>8) % n
}

func (c *chance) of(l []int) int { return l[c.below(len(l))] }

// op is an Op as the document lists it: its number, what it uses (d and s: registers, o: Off, i: Imm), an instruction of it and that one's bytes, written out.
type op struct {
	name   string
	named  int
	number int
	uses   string
	sample insn.Insn
	bytes  string
}

var ops = []op{
	{"Mov", insn.Mov, 1, "ds", insn.Insn{Op: 1, Dst: 3, Src: 5}, "\x01\x35\x00\x00\x00\x00\x00\x00"},
	{"MovImm", insn.MovImm, 2, "di", insn.Insn{Op: 2, Dst: 3, Imm: -1}, "\x02\x30\x00\x00\xff\xff\xff\xff"},
	{"Add", insn.Add, 16, "ds", insn.Insn{Op: 16, Dst: 7, Src: 7}, "\x10\x77\x00\x00\x00\x00\x00\x00"},
	{"Sub", insn.Sub, 17, "ds", insn.Insn{Op: 17, Dst: 7, Src: 0}, "\x11\x70\x00\x00\x00\x00\x00\x00"},
	{"And", insn.And, 18, "ds", insn.Insn{Op: 18, Dst: 0, Src: 7}, "\x12\x07\x00\x00\x00\x00\x00\x00"},
	{"Or", insn.Or, 19, "ds", insn.Insn{Op: 19, Dst: 1, Src: 2}, "\x13\x12\x00\x00\x00\x00\x00\x00"},
	{"Mul", insn.Mul, 20, "ds", insn.Insn{Op: 20, Dst: 4, Src: 6}, "\x14\x46\x00\x00\x00\x00\x00\x00"},
	{"AddImm", insn.AddImm, 21, "di", insn.Insn{Op: 21, Dst: 1, Imm: 1}, "\x15\x10\x00\x00\x00\x00\x00\x01"},
	{"SubImm", insn.SubImm, 22, "di", insn.Insn{Op: 22, Dst: 2, Imm: 258}, "\x16\x20\x00\x00\x00\x00\x01\x02"},
	{"AndImm", insn.AndImm, 23, "di", insn.Insn{Op: 23, Dst: 3, Imm: 16909060}, "\x17\x30\x00\x00\x01\x02\x03\x04"},
	{"OrImm", insn.OrImm, 24, "di", insn.Insn{Op: 24, Dst: 4, Imm: 2147483647}, "\x18\x40\x00\x00\x7f\xff\xff\xff"},
	{"MulImm", insn.MulImm, 25, "di", insn.Insn{Op: 25, Dst: 5, Imm: -2147483648}, "\x19\x50\x00\x00\x80\x00\x00\x00"},
	{"ShlImm", insn.ShlImm, 26, "di", insn.Insn{Op: 26, Dst: 6, Imm: 63}, "\x1a\x60\x00\x00\x00\x00\x00\x3f"},
	{"ShrImm", insn.ShrImm, 27, "di", insn.Insn{Op: 27, Dst: 7, Imm: 32}, "\x1b\x70\x00\x00\x00\x00\x00\x20"},
	{"Jump", insn.Jump, 32, "o", insn.Insn{Op: 32, Off: -2}, "\x20\x00\xff\xfe\x00\x00\x00\x00"},
	{"Jeq", insn.Jeq, 33, "dso", insn.Insn{Op: 33, Dst: 1, Src: 6, Off: 1}, "\x21\x16\x00\x01\x00\x00\x00\x00"},
	{"Jne", insn.Jne, 34, "dso", insn.Insn{Op: 34, Dst: 2, Src: 5, Off: 258}, "\x22\x25\x01\x02\x00\x00\x00\x00"},
	{"Jlt", insn.Jlt, 35, "dso", insn.Insn{Op: 35, Dst: 3, Src: 4, Off: 32767}, "\x23\x34\x7f\xff\x00\x00\x00\x00"},
	{"Jge", insn.Jge, 36, "dso", insn.Insn{Op: 36, Dst: 4, Src: 3, Off: -32768}, "\x24\x43\x80\x00\x00\x00\x00\x00"},
	{"JeqImm", insn.JeqImm, 37, "doi", insn.Insn{Op: 37, Dst: 5, Off: -1, Imm: 1}, "\x25\x50\xff\xff\x00\x00\x00\x01"},
	{"JneImm", insn.JneImm, 38, "doi", insn.Insn{Op: 38, Dst: 6, Off: 1, Imm: -1}, "\x26\x60\x00\x01\xff\xff\xff\xff"},
	{"JltImm", insn.JltImm, 39, "doi", insn.Insn{Op: 39, Dst: 7, Off: 772, Imm: 16909060}, "\x27\x70\x03\x04\x01\x02\x03\x04"},
	{"JgeImm", insn.JgeImm, 40, "doi", insn.Insn{Op: 40, Dst: 1, Off: -258, Imm: -16909060}, "\x28\x10\xfe\xfe\xfe\xfd\xfc\xfc"},
	{"LoadCtx", insn.LoadCtx, 48, "do", insn.Insn{Op: 48, Dst: 5, Off: 3}, "\x30\x50\x00\x03\x00\x00\x00\x00"},
	{"StoreCtx", insn.StoreCtx, 49, "so", insn.Insn{Op: 49, Src: 5, Off: 4}, "\x31\x05\x00\x04\x00\x00\x00\x00"},
	{"LoadCtxAt", insn.LoadCtxAt, 50, "ds", insn.Insn{Op: 50, Dst: 6, Src: 1}, "\x32\x61\x00\x00\x00\x00\x00\x00"},
	{"LoadStack", insn.LoadStack, 51, "do", insn.Insn{Op: 51, Dst: 2, Off: 7}, "\x33\x20\x00\x07\x00\x00\x00\x00"},
	{"StoreStack", insn.StoreStack, 52, "so", insn.Insn{Op: 52, Src: 2, Off: -7}, "\x34\x02\xff\xf9\x00\x00\x00\x00"},
	{"LoadStackAt", insn.LoadStackAt, 53, "ds", insn.Insn{Op: 53, Dst: 1, Src: 7}, "\x35\x17\x00\x00\x00\x00\x00\x00"},
	{"StoreStackAt", insn.StoreStackAt, 54, "ds", insn.Insn{Op: 54, Dst: 7, Src: 1}, "\x36\x71\x00\x00\x00\x00\x00\x00"},
	{"LoadVal", insn.LoadVal, 55, "dso", insn.Insn{Op: 55, Dst: 2, Src: 3, Off: 1}, "\x37\x23\x00\x01\x00\x00\x00\x00"},
	{"StoreVal", insn.StoreVal, 56, "dso", insn.Insn{Op: 56, Dst: 3, Src: 2, Off: -256}, "\x38\x32\xff\x00\x00\x00\x00\x00"},
	{"Call", insn.Call, 64, "i", insn.Insn{Op: 64, Imm: 4}, "\x40\x00\x00\x00\x00\x00\x00\x04"},
	{"Exit", insn.Exit, 80, "", insn.Insn{Op: 80}, "\x50\x00\x00\x00\x00\x00\x00\x00"},
}

// wantOp is the Op of a number, and false of what is none.
func wantOp(number int) (op, bool) {
	k := slices.IndexFunc(ops, func(o op) bool { return o.number == number })
	if k < 0 {
		return op{}, false
	}
	return ops[k], true
}

// The numbers on either side of each edge that the document names, and far ones, of which many would be right modulo a part's size.
func registerEdges() []int { return append([]int{-1, 0, 7, 8}, farInts()...) }

func offEdges() []int {
	return append([]int{-32769, -32768, -1, 0, 32767, 32768, 65535, 65536, -65536}, farInts()...)
}

func immEdges() []int {
	return append([]int{-2147483649, -2147483648, -1, 0, 2147483647, 2147483648, 63, 64, 65, -64, 128, 4294967295}, farInts()...)
}

func farInts() []int {
	return []int{math.MinInt, -1 << 32, -257, -16, -8, 1, 16, 256, 1 << 32, 1<<32 + 1, 1 << 48, 1 << 60, math.MaxInt}
}

// wantPart tells whether one part is right, by the letter that the Op's uses have of it.
func wantPart(o op, letter string, n int) bool {
	if !strings.Contains(o.uses, letter) {
		return n == 0
	}
	switch letter {
	case "d", "s":
		return n > -1 && n < 8
	case "o":
		return n > -32769 && n < 32768
	}
	if o.number == 26 || o.number == 27 {
		return n > -1 && n < 64
	}
	return n > -2147483649 && n < 2147483648
}

func wantOne(i insn.Insn) bool {
	o, is := wantOp(i.Op)
	return is && wantPart(o, "d", i.Dst) && wantPart(o, "s", i.Src) && wantPart(o, "o", i.Off) && wantPart(o, "i", i.Imm)
}

func wantRight(l ...insn.Insn) bool {
	for _, i := range l {
		if !wantOne(i) {
			return false
		}
	}
	return len(l) != 0 && len(l) < 65
}

// wantBytes divides: a number below 0 has the bytes of that which is greater by as many as its bytes can tell.
func wantBytes(l ...insn.Insn) string {
	var b []byte
	for _, i := range l {
		off, imm := i.Off, i.Imm
		if off < 0 {
			off += 65536
		}
		if imm < 0 {
			imm += 4294967296
		}
		b = append(b, byte(i.Op), byte(i.Dst*16+i.Src), byte(off/256), byte(off%256))
		b = append(b, byte(imm/16777216), byte(imm/65536%256), byte(imm/256%256), byte(imm%256))
	}
	return string(b)
}

func wantDecode(s string) ([]insn.Insn, api.Errno) {
	var l []insn.Insn
	for ; len(s) >= 8; s = s[8:] {
		i := insn.Insn{Op: int(s[0]), Dst: int(s[1]) / 16, Src: int(s[1]) % 16}
		i.Off = int(s[2])*256 + int(s[3])
		if i.Off > 32767 {
			i.Off -= 65536
		}
		i.Imm = int(s[4])*16777216 + int(s[5])*65536 + int(s[6])*256 + int(s[7])
		if i.Imm > 2147483647 {
			i.Imm -= 4294967296
		}
		l = append(l, i)
	}
	if s != "" || !wantRight(l...) {
		return nil, api.EINVAL
	}
	return l, api.OK
}

// right is an instruction that is right, of any Op.
func (c *chance) right() insn.Insn {
	o := ops[c.below(len(ops))]
	i := insn.Insn{Op: o.number}
	for _, letter := range o.uses {
		switch letter {
		case 'd':
			i.Dst = c.below(8)
		case 's':
			i.Src = c.below(8)
		case 'o':
			i.Off = c.below(65536) - 32768
		case 'i':
			i.Imm = c.below(65536)<<16 + c.below(65536) - 2147483648
			if !wantOne(i) {
				i.Imm = c.below(64)
			}
		}
	}
	return i
}

// nearly is an instruction that is right but for one part, which may be right, too.
func (c *chance) nearly() insn.Insn {
	i := c.right()
	switch c.below(5) {
	case 0:
		i.Op = c.below(302) - 1
	case 1:
		i.Dst = c.of(registerEdges())
	case 2:
		i.Src = c.of(registerEdges())
	case 3:
		i.Off = c.of(offEdges())
	case 4:
		i.Imm = c.of(immEdges())
	}
	return i
}

// program is often right: from none to two more instructions than there may be, and some that are nearly right.
func (c *chance) program() []insn.Insn {
	l := make([]insn.Insn, c.below(67))
	for k := range l {
		l[k] = c.right()
	}
	if len(l) > 0 && c.below(2) == 0 {
		l[c.below(len(l))] = c.nearly()
	}
	return l
}

// samples is so many right instructions.
func samples(n int) []insn.Insn {
	l := make([]insn.Insn, n)
	for k := range l {
		l[k] = ops[k%len(ops)].sample
	}
	return l
}
