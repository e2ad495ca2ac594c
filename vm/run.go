package vm

import (
	"slices"

	"narthex/api"
	"narthex/hook"
	"narthex/insn"
	"narthex/maps"
)

const registerCount = 8

// The registers that are a helper's: it answers in the first, and leaves the others unset, whether it took an argument there or not.
const (
	answerAt   = 0
	firstArgAt = 1
	lastArgAt  = 5
	maxArgs    = lastArgAt - firstArgAt + 1
)

// What a register or a stack word may have.
const (
	unset = iota
	number
	reference
)

// value is what a register or a stack word has.
type value struct {
	is  int
	n   int       // the number, or the key that is referred to
	ref *maps.Map // the map of the key that is referred to
}

// run is a handler that is being run.
type run struct {
	hook      int
	set       maps.Set
	insns     []insn.Insn
	inputs    int   // how many of the fields
	fields    []int // the inputs, and the outputs behind them
	registers [registerCount]value
	stack     [api.MaxStack]value
	at        int // the instruction that is next
	steps     int
}

// What a run ends by: each is panicked with, and recovered by toEnd.
type (
	verdict int
	why     int
)

// ask is what each fault is asked by. Of those that an instruction could have the least is the one: whoever asks, asks in their order.
func ask(holds bool, w why) {
	if !holds {
		panic(w)
	}
}

// toEnd goes on till the run ends, which it always does: steps are used up.
func (r *run) toEnd() (o Outcome) {
	defer func() {
		switch x := recover().(type) {
		case verdict:
			o = Outcome{How: Done, Verdict: int(x)}
		case why:
			o = Outcome{How: Fault, Why: int(x)}
		default:
			panic(x)
		}
		o.Steps, o.Out = r.steps, slices.Clone(r.fields[r.inputs:])
	}()
	for {
		r.step()
	}
}

func (r *run) step() {
	ask(r.steps < api.MaxInsns, Fuel)
	ask(within(r.at, len(r.insns)), Outside)
	i := r.insns[r.at]
	r.at++
	r.do(i)
	r.steps++
}

// do does an instruction, which is right.
func (r *run) do(i insn.Insn) {
	switch i.Op {
	case insn.Mov:
		r.askSet(i.Src)
		r.registers[i.Dst] = r.registers[i.Src]
	case insn.MovImm:
		r.load(i.Dst, i.Imm)
	case insn.LoadCtx:
		r.load(i.Dst, r.field(i.Off))
	case insn.LoadCtxAt:
		r.load(i.Dst, r.field(r.number(i.Src)))
	case insn.StoreCtx:
		r.setField(i.Off, r.number(i.Src))
	case insn.LoadStack:
		r.load(i.Dst, r.word(i.Off))
	case insn.LoadStackAt:
		r.load(i.Dst, r.word(r.number(i.Src)))
	case insn.StoreStack:
		r.setWord(i.Off, r.number(i.Src))
	case insn.StoreStackAt:
		r.setWord(r.numbers(i.Dst, i.Src))
	case insn.LoadVal:
		r.loadVal(i)
	case insn.StoreVal:
		r.storeVal(i)
	case insn.Call:
		r.call(i.Imm)
	case insn.Exit:
		r.exit()
	default:
		if insn.IsJump(i.Op) {
			r.jump(i)
		} else {
			r.reckon(i)
		}
	}
}

func (r *run) exit() {
	n := r.number(answerAt)
	// The panic leaves step ahead of its count.
	r.steps++
	panic(verdict(n))
}

func (r *run) load(register, n int) { r.registers[register] = value{is: number, n: n} }

// askSet asks all registers that an instruction reads, ahead of all else that is asked of any of them.
func (r *run) askSet(l ...int) {
	for _, k := range l {
		ask(r.registers[k].is != unset, Unset)
	}
}

func (r *run) number(register int) int {
	r.askSet(register)
	v := r.registers[register]
	ask(v.is == number, NoNumber)
	return v.n
}

func (r *run) numbers(a, b int) (int, int) {
	r.askSet(a, b)
	return r.number(a), r.number(b)
}

// operands are what an instruction reckons with, or holds against each other.
func (r *run) operands(i insn.Insn) (int, int) {
	if insn.HasImm(i.Op) {
		return r.number(i.Dst), i.Imm
	}
	return r.numbers(i.Dst, i.Src)
}

func (r *run) reckon(i insn.Insn) {
	a, b := r.operands(i)
	r.load(i.Dst, result(i.Op, a, b))
}

func result(op, a, b int) int {
	switch op {
	case insn.Add, insn.AddImm:
		return a + b
	case insn.Sub, insn.SubImm:
		return a - b
	case insn.And, insn.AndImm:
		return a & b
	case insn.Or, insn.OrImm:
		return a | b
	case insn.Mul, insn.MulImm:
		return a * b
	case insn.ShlImm:
		return a << b
	}
	// ShrImm: an int would be filled up with its sign.
	return int(uint64(a) >> b)
}

func (r *run) jump(i insn.Insn) {
	if r.jumps(i) {
		r.at += i.Off
	}
}

func (r *run) jumps(i insn.Insn) bool {
	if i.Op == insn.Jump {
		return true
	}
	if r.asksFound(i) {
		return i.Op == insn.JneImm
	}
	a, b := r.operands(i)
	switch i.Op {
	case insn.Jeq, insn.JeqImm:
		return a == b
	case insn.Jne, insn.JneImm:
		return a != b
	case insn.Jlt, insn.JltImm:
		return a < b
	}
	return a >= b
}

// asksFound tells whether a jump holds a reference against 0, as what a helper found may be.
func (r *run) asksFound(i insn.Insn) bool {
	return (i.Op == insn.JeqImm || i.Op == insn.JneImm) && i.Imm == 0 && r.registers[i.Dst].is == reference
}

func (r *run) field(k int) int {
	ask(within(k, len(r.fields)), Field)
	return r.fields[k]
}

func (r *run) setField(k, n int) {
	ask(within(k, len(r.fields)), Field)
	ask(k >= r.inputs, Input)
	r.fields[k] = n
}

func (r *run) word(k int) int {
	ask(within(k, api.MaxStack), Word)
	ask(r.stack[k].is != unset, Blank)
	return r.stack[k].n
}

func (r *run) setWord(k, n int) {
	ask(within(k, api.MaxStack), Word)
	r.stack[k] = value{is: number, n: n}
}

func (r *run) loadVal(i insn.Insn) {
	r.askSet(i.Src)
	_, v := r.slot(i.Src, i.Off)
	r.load(i.Dst, v[i.Off])
}

func (r *run) storeVal(i insn.Insn) {
	r.askSet(i.Dst, i.Src)
	n := r.number(i.Src)
	to, _ := r.slot(i.Dst, i.Off)
	to.ref.Word(to.n, i.Off, n)
}

// slot is the reference that a register has, and the value to which it refers, in which there is a word k.
func (r *run) slot(register, k int) (value, maps.Value) {
	to := r.registers[register]
	ask(to.is == reference, NoRef)
	v, there := to.ref.Get(to.n)
	ask(there, Stale)
	ask(within(k, len(v)), Slot)
	return to, v
}

func (r *run) call(helper int) {
	n, may := hook.Args(r.hook, helper)
	ask(may, Helper)
	a := r.args(n)
	m := r.set.At(a[0])
	ask(m != nil, NoMap)
	answer := help(helper, m, a)
	clear(r.registers[firstArgAt : lastArgAt+1])
	r.registers[answerAt] = answer
}

// args is a helper's n arguments.
func (r *run) args(n int) [maxArgs]int {
	for k := range n {
		r.askSet(firstArgAt + k)
	}
	var a [maxArgs]int
	for k := range n {
		a[k] = r.number(firstArgAt + k)
	}
	return a
}

// help is what a helper answers, asked with a map, and with arguments of which the first was that map's number.
func help(helper int, m *maps.Map, a [maxArgs]int) value {
	key := a[1]
	switch helper {
	case hook.Find:
		if _, there := m.Use(key); there {
			return value{is: reference, n: key, ref: m}
		}
		return value{is: number}
	case hook.Count:
		return value{is: number, n: m.Len()}
	case hook.Put:
		return value{is: number, n: -int(m.Put(key, maps.Value{a[2], a[3]}))}
	}
	return value{is: number, n: -int(m.Drop(key))}
}

// within tells whether there is a thing of a number, of so many that are numbered from 0 on.
func within(k, n int) bool { return 0 <= k && k < n }
