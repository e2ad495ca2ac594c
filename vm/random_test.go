package vm_test

import (
	"slices"
	"testing"

	"narthex/insn"
	"narthex/maps"
	"narthex/vm"
)

// keys are those that random programs ask for: few, so that they are often there.
var keys = []int{0, 1, 2, 3, 5, -1}

// imms are numbers for MovImm, most of them small.
var imms = []int{0, 1, 2, 3, 4, 5, 6, 7, 0, 1, 2, 3, 8, 10, 63, -1, -2, -2147483648, 2147483647}

// register is mostly one that a helper leaves as it is.
func (c *chance) register() int { return c.of([]int{0, 6, 7, 0, 6, 7, 0, 6, 7, 1, 2, 3, 4, 5}) }

// offset is mostly one that is there.
func (c *chance) offset(n int) int {
	if c.below(25) == 0 {
		return c.of([]int{-1, n, n + 1, -32768, 32767})
	}
	return c.below(n)
}

// output is mostly an output's number, if there are any.
func (c *chance) output(x shape) int {
	if x.outputs == 0 || c.below(25) == 0 {
		return c.of([]int{-1, 0, x.inputs - 1, x.inputs, x.inputs + x.outputs, 32767})
	}
	return x.inputs + c.below(x.outputs)
}

// piece is some instructions that belong together.
func (c *chance) piece(x shape) []insn.Insn {
	r, s := c.register(), c.register()
	switch c.below(14) {
	case 0:
		return one(imm(r, c.of(imms)))
	case 1:
		return one(two(insn.Add+c.below(5), r, s))
	case 2:
		op := insn.AddImm + c.below(7)
		if op >= insn.ShlImm {
			return one(with(op, r, c.below(64)))
		}
		return one(with(op, r, c.of(imms)))
	case 3:
		return one(mov(r, s))
	case 4:
		return []insn.Insn{imm(r, c.of(imms)), storeStack(c.offset(8), r), loadStack(s, c.offset(8))}
	case 5:
		k := c.offset(8)
		return []insn.Insn{imm(r, k), two(insn.StoreStackAt, r, s), imm(s, k), two(insn.LoadStackAt, r, s)}
	case 6:
		return []insn.Insn{loadCtx(r, c.offset(x.inputs+x.outputs)), imm(s, c.offset(x.inputs+x.outputs)), two(insn.LoadCtxAt, s, s)}
	case 7:
		return []insn.Insn{loadCtx(r, 0), storeCtx(c.output(x), r)}
	case 8:
		return one(c.someJump())
	case 9, 10:
		return c.find(x)
	case 11, 12:
		return c.help(x)
	}
	return one(c.right())
}

// someJump mostly leads ahead, and not far.
func (c *chance) someJump() insn.Insn {
	i := insn.Insn{Op: insn.Jump + c.below(9), Off: c.below(3)}
	if c.below(12) == 0 {
		i.Off = -c.below(6)
	}
	if i.Op != insn.Jump {
		i.Dst = c.register()
	}
	if insn.HasImm(i.Op) {
		i.Imm = c.of(imms)
	} else if i.Op != insn.Jump {
		i.Src = c.register()
	}
	return i
}

// find asks for a key, mostly whether it was found, and loads or stores a word of its value; sometimes the key may be gone by then.
func (c *chance) find(x shape) []insn.Insn {
	to := 6 + c.below(2)
	of, key := c.offset(3), c.of(keys)
	l := append(help(1, of, key), mov(to, 0))
	if c.below(8) > 0 {
		l = append(l, jumpBy(insn.JeqImm, to, 0, 2+c.below(2)))
	}
	if x.told && c.below(6) == 0 {
		l = append(l, help(4, of, key)...)
	}
	if c.below(6) == 0 {
		l = append(l, c.help(x)...)
	}
	if c.below(10) == 0 {
		to = c.register()
	}
	if c.below(3) > 0 {
		l = append(l, imm(1, c.of(imms)), storeVal(to, c.offset(4), 1))
	}
	return append(l, loadVal(c.register(), to, c.offset(4)))
}

func (c *chance) help(x shape) []insn.Insn {
	helper := 1 + c.below(4)
	if !x.told && c.below(10) > 0 {
		helper = 1 + c.below(2)
	}
	if c.below(40) == 0 {
		helper = c.of(imms)
	}
	l := []insn.Insn{imm(1, c.offset(3)), imm(2, c.of(keys)), imm(3, c.of(imms)), mov(4, c.of([]int{3, 3, 3, 3, 6}))}
	if c.below(20) == 0 {
		l = l[c.below(4):]
	}
	return append(l, call(helper))
}

// right is any right instruction.
func (c *chance) right() insn.Insn {
	for {
		i := insn.Insn{Op: ops[c.below(len(ops))].number, Dst: c.register() * c.below(2), Src: c.register() * c.below(2), Off: c.offset(10) * c.below(2), Imm: c.of(imms) * c.below(2)}
		if insn.Right(i) {
			return i
		}
	}
}

// program is instructions of which most go well; in most of them registers and words have numbers at first.
func (c *chance) program(x shape) []insn.Insn {
	for {
		if l := c.draft(x); len(l) > 0 && len(l) <= 64 {
			return l
		}
	}
}

func (c *chance) draft(x shape) []insn.Insn {
	var l []insn.Insn
	if c.below(5) > 0 {
		for k := range 8 {
			l = append(l, imm(k, c.of(imms)))
		}
		for k := range 8 {
			l = append(l, storeStack(k, c.register()))
		}
	}
	for range c.below(12) {
		l = append(l, c.piece(x)...)
	}
	if c.below(10) > 0 {
		l = append(l, imm(0, c.of(imms)))
	}
	if c.below(15) > 0 {
		l = append(l, exit())
	}
	return l
}

func (c *chance) maps() []*plainMap {
	var l []*plainMap
	for range 3 + c.below(2) - c.below(8)/7 {
		p := &plainMap{kind: 1 + c.below(2), room: 1 + c.below(8)}
		for range c.below(9) {
			p.put(c.of(keys), c.of(farInts), c.of(imms))
		}
		for k := range p.list {
			p.list[k].Value[2+k%2] = c.of(farInts)
		}
		l = append(l, p)
	}
	return l
}

// P19.1: many programs by chance, one behind the other on maps that stay, against the model.
func TestRandomPrograms(t *testing.T) {
	c := chance(19)
	dones, whys, steps := 0, make([]int, 14), 0
	for range 4000 {
		with := c.maps()
		for range 10 {
			h := 1 + c.below(8)
			ctx := make([]int, hooks[h].inputs)
			for k := range ctx {
				ctx[k] = c.of(append(farInts, keys...))
			}
			o, _ := runWith(t, with, h, ctx, c.program(hooks[h])...)
			whys[o.Why]++
			dones += 2 - o.How
			steps += o.Steps
		}
	}
	if dones < 10000 || dones > 30000 || steps < 40000*15 {
		t.Errorf("%d of 40000 programs are done, in %d steps, %v", dones, steps, whys)
	}
	for why, n := range whys {
		if n < 50 {
			t.Errorf("%d of 40000 programs end with fault %d", n, why)
		}
	}
}

// P19.1: many programs of any right instructions, most of which are soon at fault, against the model.
func TestAnyPrograms(t *testing.T) {
	c := chance(91)
	for range 40000 {
		h := 1 + c.below(8)
		l := []insn.Insn{imm(c.register(), c.of(imms)), imm(c.register(), c.of(imms)), loadCtx(c.register(), 0)}
		for range 1 + c.below(20) {
			l = append(l, c.right())
		}
		ctx := make([]int, hooks[h].inputs)
		for k := range ctx {
			ctx[k] = c.of(farInts)
		}
		runOn(t, h, ctx, l...)
	}
}

// P19.1: of the same maps, context and instructions there is the same outcome, and the same is left.
func TestSameAgain(t *testing.T) {
	c := chance(7)
	for range 3000 {
		h := 1 + c.below(8)
		with := c.maps()
		l := c.program(hooks[h])
		var first vm.Outcome
		var left [][]maps.Entry
		for round := range 3 {
			set := made(t, with)
			o, e := vm.Run(h, set, zeros(h), l...)
			if round == 0 {
				first, left = o, told(set)
			}
			if e != 0 || !same(o, first) || !slices.EqualFunc(told(set), left, func(a, b []maps.Entry) bool { return slices.Equal(a, b) }) {
				t.Fatalf("%v: %+v, not %+v", l, o, first)
			}
		}
	}
}
