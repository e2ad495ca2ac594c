package vm_test

import (
	"math"
	"math/big"
	"slices"
	"strings"

	"narthex/insn"
	"narthex/maps"
	"narthex/vm"
)

// chance is numbers that look like chance, the same in each run.
type chance uint32

func (c *chance) below(n int) int {
	*c = *c*1664525 + 1013904223
	return int(*c>>8) % n
}

func (c *chance) of(l []int) int { return l[c.below(len(l))] }

// farInts are numbers at the edges of what an int can be, and of what an Imm can be.
var farInts = []int{math.MinInt, math.MinInt + 1, -1 << 32, math.MinInt32 - 1, math.MinInt32, -65, -64, -63, -2, -1, 0, 1, 2, 3, 31, 32, 62, 63, 64, 65, math.MaxInt32, math.MaxInt32 + 1, 1 << 32, 1<<32 + 1, math.MaxInt - 1, math.MaxInt}

// shape is how many inputs and outputs a hook has, and whether it is told.
type shape struct {
	inputs, outputs int
	told            bool
}

// hooks are the document's, by their numbers.
var hooks = []shape{{}, {4, 6, false}, {10, 0, true}, {1, 5, false}, {7, 0, true}, {3, 3, false}, {7, 0, true}, {6, 0, true}, {5, 0, false}}

// op is what an Op reads: registers (d and s) that must be numbers, may be either, or must be references; and whether it has the number of a field or word in Off, or in the register of that letter.
type op struct {
	number                int
	numbers, either, refs string
	field, word           string
	blank, writes, slot   bool
}

var ops = []op{
	{number: 1, either: "s"},
	{number: 2},
	{number: 16, numbers: "ds"}, {number: 17, numbers: "ds"}, {number: 18, numbers: "ds"}, {number: 19, numbers: "ds"}, {number: 20, numbers: "ds"},
	{number: 21, numbers: "d"}, {number: 22, numbers: "d"}, {number: 23, numbers: "d"}, {number: 24, numbers: "d"}, {number: 25, numbers: "d"},
	{number: 26, numbers: "d"}, {number: 27, numbers: "d"},
	{number: 32},
	{number: 33, numbers: "ds"}, {number: 34, numbers: "ds"}, {number: 35, numbers: "ds"}, {number: 36, numbers: "ds"},
	{number: 37, numbers: "d"}, {number: 38, numbers: "d"}, {number: 39, numbers: "d"}, {number: 40, numbers: "d"},
	{number: 48, field: "o"},
	{number: 49, numbers: "s", field: "o", writes: true},
	{number: 50, numbers: "s", field: "s"},
	{number: 51, word: "o", blank: true},
	{number: 52, numbers: "s", word: "o"},
	{number: 53, numbers: "s", word: "s", blank: true},
	{number: 54, numbers: "ds", word: "d"},
	{number: 55, refs: "s", slot: true},
	{number: 56, numbers: "s", refs: "d", slot: true},
	{number: 64},
	{number: 80},
}

func opOf(number int) op {
	return ops[slices.IndexFunc(ops, func(o op) bool { return o.number == number })]
}

// plainMap is a map as a list, the eldest first.
type plainMap struct {
	kind, room int
	list       []maps.Entry
}

func (m *plainMap) at(key int) int {
	return slices.IndexFunc(m.list, func(e maps.Entry) bool { return e.Key == key })
}

func (m *plainMap) drop(key int) int {
	if m.at(key) < 0 {
		return -2
	}
	m.list = slices.DeleteFunc(m.list, func(e maps.Entry) bool { return e.Key == key })
	return 0
}

func (m *plainMap) use(key int) {
	if k := m.at(key); m.kind == 2 && k >= 0 {
		e := m.list[k]
		m.drop(key)
		m.list = append(m.list, e)
	}
}

func (m *plainMap) put(key, a, b int) int {
	v := maps.Value{a, b, 0, 0}
	if k := m.at(key); k >= 0 {
		m.list[k].Value = v
		m.use(key)
		return 0
	}
	if len(m.list) == m.room && m.kind == 1 {
		return -28
	}
	if len(m.list) == m.room {
		m.list = m.list[1:]
	}
	m.list = append(m.list, maps.Entry{Key: key, Value: v})
	return 0
}

// ref is a reference: the number of a map, and a key.
type ref struct{ of, key int }

// model runs a handler by the chapter's words: of each instruction it asks each fault, one by one, whether it is so. A register or a stack word is nil, an int or a ref.
type model struct {
	shape
	set       []*plainMap
	fields    []int
	registers [8]any
	stack     [8]any
	at, steps int
}

// wanted is how a run must end, of what is right.
func wanted(h int, set []*plainMap, ctx []int, l ...insn.Insn) vm.Outcome {
	m := &model{shape: hooks[h], set: set, fields: append(slices.Clone(ctx), make([]int, hooks[h].outputs)...)}
	o := vm.Outcome{How: 2}
	for o.Why = m.why(l); o.Why == 0; o.Why = m.why(l) {
		i := l[m.at]
		m.at, m.steps = m.at+1, m.steps+1
		if i.Op == 80 {
			o.How, o.Verdict = 1, m.registers[0].(int)
			break
		}
		m.do(i)
	}
	o.Steps, o.Out = m.steps, m.fields[m.inputs:]
	return o
}

// why is the first fault that is so, or 0.
func (m *model) why(l []insn.Insn) int {
	if m.steps == 64 {
		return 1
	}
	if m.at < 0 || m.at > len(l)-1 {
		return 2
	}
	for why := 3; why <= 13; why++ {
		if m.is(why, l[m.at]) {
			return why
		}
	}
	return 0
}

// is tells whether an instruction has a fault, if it hasn't those that come ahead of it.
func (m *model) is(why int, i insn.Insn) bool {
	o := opOf(i.Op)
	numbers := m.of(i, o.numbers)
	refs := m.of(i, o.refs)
	if i.Op == 80 {
		numbers = m.registers[:1]
	}
	if i.Op == 64 {
		numbers = m.registers[1 : 1+m.args(i.Imm)]
	}
	field, word := m.numberIn(i, o.field), m.numberIn(i, o.word)
	switch why {
	case 3:
		return slices.Contains(slices.Concat(numbers, refs, m.of(i, o.either)), nil)
	case 4:
		isRef := func(v any) bool { _, is := v.(ref); return is }
		return slices.ContainsFunc(numbers, isRef) && !(i.Imm == 0 && (i.Op == 37 || i.Op == 38))
	case 5:
		return o.field != "" && (field < 0 || field >= len(m.fields))
	case 6:
		return o.writes && field < m.inputs
	case 7:
		return o.word != "" && (word < 0 || word > 7)
	case 8:
		return o.blank && m.stack[word] == nil
	case 9:
		isNumber := func(v any) bool { _, is := v.(int); return is }
		return slices.ContainsFunc(refs, isNumber)
	case 10:
		return o.slot && m.set[refs[0].(ref).of].at(refs[0].(ref).key) < 0
	case 11:
		return o.slot && i.Off != 0 && i.Off != 1 && i.Off != 2 && i.Off != 3
	case 12:
		return i.Op == 64 && m.args(i.Imm) == 0
	}
	return i.Op == 64 && (numbers[0].(int) < 0 || numbers[0].(int) >= len(m.set))
}

// args is how many arguments a helper takes that the hook may call, or 0.
func (m *model) args(helper int) int {
	switch {
	case helper == 1:
		return 2
	case helper == 2:
		return 1
	case helper == 3 && m.told:
		return 4
	case helper == 4 && m.told:
		return 2
	}
	return 0
}

// of is what the registers of letters have.
func (m *model) of(i insn.Insn, letters string) []any {
	var l []any
	if strings.Contains(letters, "d") {
		l = append(l, m.registers[i.Dst])
	}
	if strings.Contains(letters, "s") {
		l = append(l, m.registers[i.Src])
	}
	return l
}

// numberIn is Off, or the number that a register has, or 0.
func (m *model) numberIn(i insn.Insn, letter string) int {
	if letter == "o" {
		return i.Off
	}
	for _, v := range m.of(i, letter) {
		if n, is := v.(int); is {
			return n
		}
	}
	return 0
}

// do does an instruction that has no fault and isn't Exit.
func (m *model) do(i insn.Insn) {
	a, b := m.registers[i.Dst], m.registers[i.Src]
	if i.Op >= 21 && i.Op <= 27 || i.Op >= 37 && i.Op <= 40 {
		b = i.Imm
	}
	switch {
	case i.Op == 1:
		m.registers[i.Dst] = b
	case i.Op == 2:
		m.registers[i.Dst] = i.Imm
	case i.Op <= 27:
		m.registers[i.Dst] = reckoned(i.Op, a.(int), b.(int))
	case i.Op <= 40:
		if i.Op == 32 || holds(i.Op, a, b) {
			m.at += i.Off
		}
	case i.Op == 48:
		m.registers[i.Dst] = m.fields[i.Off]
	case i.Op == 49:
		m.fields[i.Off] = b.(int)
	case i.Op == 50:
		m.registers[i.Dst] = m.fields[b.(int)]
	case i.Op == 51:
		m.registers[i.Dst] = m.stack[i.Off]
	case i.Op == 52:
		m.stack[i.Off] = b
	case i.Op == 53:
		m.registers[i.Dst] = m.stack[b.(int)]
	case i.Op == 54:
		m.stack[a.(int)] = b
	case i.Op == 55:
		m.registers[i.Dst] = m.entry(b).Value[i.Off]
	case i.Op == 56:
		m.entry(a).Value[i.Off] = b.(int)
	default:
		m.call(i.Imm)
	}
}

func (m *model) entry(r any) *maps.Entry {
	p := m.set[r.(ref).of]
	return &p.list[p.at(r.(ref).key)]
}

func (m *model) call(helper int) {
	var a [4]int
	for k := range m.args(helper) {
		a[k] = m.registers[k+1].(int)
	}
	p := m.set[a[0]]
	for k := 1; k <= 5; k++ {
		m.registers[k] = nil
	}
	switch helper {
	case 1:
		m.registers[0] = 0
		if p.at(a[1]) >= 0 {
			p.use(a[1])
			m.registers[0] = ref{a[0], a[1]}
		}
	case 2:
		m.registers[0] = len(p.list)
	case 3:
		m.registers[0] = p.put(a[1], a[2], a[3])
	case 4:
		m.registers[0] = p.drop(a[1])
	}
}

// reckoned is what arithmetic tells, by numbers without bounds, of which it takes the lowest 64 bits.
func reckoned(op, x, y int) int {
	a, b, n := big.NewInt(int64(x)), big.NewInt(int64(y)), new(big.Int)
	all := new(big.Int).Lsh(big.NewInt(1), 64)
	switch op {
	case 16, 21:
		n.Add(a, b)
	case 17, 22:
		n.Sub(a, b)
	case 18, 23:
		n.And(a, b)
	case 19, 24:
		n.Or(a, b)
	case 20, 25:
		n.Mul(a, b)
	case 26:
		n.Mul(a, new(big.Int).Exp(big.NewInt(2), b, nil))
	case 27:
		n.Div(n.Mod(a, all), new(big.Int).Exp(big.NewInt(2), b, nil))
	}
	return int(n.Mod(n, all).Uint64())
}

// holds tells whether a jump is taken. A reference isn't 0.
func holds(op int, a, b any) bool {
	if _, is := a.(ref); is {
		return op == 38
	}
	less, is := a.(int) < b.(int), a.(int) == b.(int)
	switch op {
	case 33, 37:
		return is
	case 34, 38:
		return !is
	case 35, 39:
		return less
	}
	return !less
}
