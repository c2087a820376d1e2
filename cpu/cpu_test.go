package cpu_test

import (
	"math"
	"math/big"
	"slices"
	"testing"

	"quarterdeck/api"
	"quarterdeck/cpu"
)

// Bits of real numbers, as words.
const (
	one      = 0x3ff0 << 48
	two      = 0x4000 << 48
	half     = 0x3fe0 << 48
	seven    = 0x401c << 48
	greatest = 0x7fefffffffffffff
	infinite = 0x7ff0 << 48
	none     = 0x7ff8 << 48
	sign     = math.MinInt // -0
	least    = 1
	whole    = 1 << 53 // the greatest whole number that a real one becomes
)

// edge is the greatest number that Set takes; the least one is as far on the other side of 0.
const edge = 1 << 39

// now is a tick that no other number of these tests is.
const now = 424242

// regions of a memory of 8 words: 0 and 1 may be written, 3 and 4 read, 2, 5, 6 and 7 neither.
func regions() []api.Region {
	return []api.Region{{From: 0, Len: 2, Write: true}, {From: 3, Len: 2}}
}

// memory has words that differ from each other, and from 0.
func memory() []int { return []int{100, -101, 102, math.MinInt, math.MaxInt, 105, 106, 107} }

// words are numbers of registers: around 0, around the memory's ends, the least and the greatest, and bits of real numbers.
func words() []int {
	return []int{math.MinInt, math.MinInt + 1, math.MinInt + 7, -1 << 32, -whole - 1, -whole, -8, -2, -1, 0, 1, 2, 3, 4, 5, 7, 8, 9, 63, 64, 1 << 32, whole, whole + 1, 3037000500, half, one, two, seven, greatest, infinite, infinite + 1, none, none + 1, sign | one, sign | seven, sign | greatest, sign | infinite, sign | none, math.MaxInt - 1, math.MaxInt}
}

// numbers are what A and B are asked with: around each bound of an instruction, the least and the greatest.
func numbers() []int {
	return []int{math.MinInt, math.MinInt + 1, -edge - 1, -edge, -1 << 32, -65, -4, -3, -2, -1, 0, 1, 2, 3, 4, 5, 24, 25, 26, 27, 62, 63, 64, 65, 1 << 32, edge, edge + 1, 1 << 40, math.MaxInt - 1, math.MaxInt}
}

// ops are all operations, what lies beyond them, and numbers that are far from them.
func ops() []int {
	l := []int{math.MinInt, -1 << 32, -20, 99, 256, 1 << 32, math.MaxInt}
	for op := -2; op <= 22; op++ {
		l = append(l, op)
	}
	return l
}

// mayBe goes by the words of instr's chapter.
func mayBe(i api.Instr) bool {
	register := func(n int) bool { return n == 0 || n == 1 || n == 2 || n == 3 }
	place := func(n int) bool { return 0 <= n && n < 64 }
	switch i.Op {
	case api.OpHalt:
		return i.A == 0 && i.B == 0
	case api.OpSet:
		return register(i.A) && -549755813888 <= i.B && i.B <= 549755813888
	case api.OpMove, api.OpAdd, api.OpSub, api.OpMul, api.OpDiv, api.OpLess, api.OpLoad, api.OpStore, api.OpBelow:
		return register(i.A) && register(i.B)
	case api.OpJump:
		return i.A == 0 && place(i.B)
	case api.OpZero:
		return register(i.A) && place(i.B)
	case api.OpHalf, api.OpTwice, api.OpFlip, api.OpReal, api.OpWhole, api.OpClock:
		return register(i.A) && i.B == 0
	case api.OpCall:
		return i.A == 0 && 0 <= i.B && i.B < 26
	}
	return false
}

// wrapped is a number without bound as a word of 64 bits.
func wrapped(n *big.Int) int {
	low := new(big.Int).Mod(n, new(big.Int).Lsh(big.NewInt(1), 64))
	return int(low.Uint64())
}

// worked is what numbers without bound come to.
func worked(op, x, y int) int {
	a, b, n := big.NewInt(int64(x)), big.NewInt(int64(y)), new(big.Int)
	switch op {
	case api.OpAdd:
		n.Add(a, b)
	case api.OpSub:
		n.Sub(a, b)
	case api.OpMul:
		n.Mul(a, b)
	case api.OpDiv:
		n.Quo(a, b)
	}
	return wrapped(n)
}

// isNone tells by bits whether a word is no real number.
func isNone(x int) bool { return x&math.MaxInt > infinite }

// rank orders real numbers by their bits.
func rank(x int) int {
	if x < 0 {
		return -(x & math.MaxInt)
	}
	return x
}

// floated is what real numbers come to, by other means than halving and doubling.
func floated(op, x int) int {
	f := math.Float64frombits(uint64(x))
	switch op {
	case api.OpHalf, api.OpTwice, api.OpFlip:
		if isNone(x) {
			return none
		}
	case api.OpReal:
		f, _ := new(big.Float).SetInt64(int64(max(min(x, whole), -whole))).Float64()
		return int(math.Float64bits(f))
	case api.OpWhole:
		if isNone(x) {
			return 0
		}
		return int(math.Trunc(math.Max(math.Min(f, whole), -whole)))
	}
	switch op {
	case api.OpHalf:
		return int(math.Float64bits(math.Ldexp(f, -1)))
	case api.OpTwice:
		return int(math.Float64bits(f + f))
	}
	return x ^ sign
}

// open tells whether some region has a word, and allows what is to be done.
func open(m []int, l []api.Region, at int, write bool) bool {
	if at < 0 || at >= len(m) {
		return false
	}
	return slices.ContainsFunc(l, func(r api.Region) bool {
		end := new(big.Int).Add(big.NewInt(int64(r.From)), big.NewInt(int64(r.Len)))
		return r.From >= 0 && r.From <= at && big.NewInt(int64(at)).Cmp(end) < 0 && (r.Write || !write)
	})
}

func oneIf(is bool) int {
	if is {
		return 1
	}
	return 0
}

// expected goes by the chapter's words, operation by operation, and leans on none of the packages below.
func expected(code []api.Instr, c api.Core, m []int, l []api.Region, now int) (api.Core, []int, api.Outcome) {
	faulty := func(fault int) (api.Core, []int, api.Outcome) {
		return c, slices.Clone(m), api.Outcome{Fault: fault, Call: -1}
	}
	if c.PC < 0 || c.PC >= len(code) || !mayBe(code[c.PC]) {
		return faulty(api.IllegalRequest)
	}
	i, d, n, o := code[c.PC], c, slices.Clone(m), api.Outcome{Call: -1}
	d.PC++
	switch i.Op {
	case api.OpHalt:
		d.PC, o.Halt = c.PC, true
	case api.OpSet:
		d.R[i.A] = i.B
	case api.OpMove:
		d.R[i.A] = c.R[i.B]
	case api.OpAdd, api.OpSub, api.OpMul:
		d.R[i.A] = worked(i.Op, c.R[i.A], c.R[i.B])
	case api.OpDiv:
		if c.R[i.B] == 0 {
			return faulty(api.NumericError)
		}
		d.R[i.A] = worked(i.Op, c.R[i.A], c.R[i.B])
	case api.OpLess:
		d.R[i.A] = oneIf(c.R[i.A] < c.R[i.B])
	case api.OpLoad:
		if !open(m, l, c.R[i.B], false) {
			return faulty(api.MemoryViolation)
		}
		o.Read, o.Value = true, m[c.R[i.B]]
		d.R[i.A] = o.Value
	case api.OpStore:
		if !open(m, l, c.R[i.B], true) {
			return faulty(api.MemoryViolation)
		}
		n[c.R[i.B]] = c.R[i.A]
	case api.OpJump:
		d.PC = i.B
	case api.OpZero:
		if c.R[i.A] == 0 {
			d.PC = i.B
		}
	case api.OpHalf, api.OpTwice, api.OpFlip, api.OpReal, api.OpWhole:
		d.R[i.A] = floated(i.Op, c.R[i.A])
	case api.OpBelow:
		x, y := c.R[i.A], c.R[i.B]
		d.R[i.A] = oneIf(!isNone(x) && !isNone(y) && rank(x) < rank(y))
	case api.OpClock:
		d.R[i.A], o.Read, o.Value = now, true, now
	case api.OpCall:
		o.Call = i.B
	}
	return d, n, o
}

// check holds a step against the chapter's words.
func check(t *testing.T, code []api.Instr, c api.Core, m []int, l []api.Region, now int) {
	t.Helper()
	d, n, o := cpu.Step(code, c, m, l, now)
	wantCore, wantWords, wantOutcome := expected(code, c, m, l, now)
	if d != wantCore || !slices.Equal(n, wantWords) || o != wantOutcome {
		t.Fatalf("%v of %v, %v, %v, %d: %v, %v, %+v", code, c, m, l, now, d, n, o)
	}
}

// at lays an instruction to a place that has Halts before and behind it.
func at(pc int, i api.Instr) []api.Instr {
	code := make([]api.Instr, pc+3)
	code[pc] = i
	return code
}

// quiet is an outcome that tells nothing.
func quiet() api.Outcome { return api.Outcome{Call: -1} }

// faulty is an outcome that tells a fault, and no more.
func faulty(fault int) api.Outcome { return api.Outcome{Fault: fault, Call: -1} }

// seen is an outcome that tells what was read.
func seen(value int) api.Outcome { return api.Outcome{Call: -1, Read: true, Value: value} }

// P5.1: each of the twenty, from PC 5 on, with all registers, the memory and the outcome.
func TestEachInstruction(t *testing.T) {
	r := [4]int{7, 1, -3, 4}
	for _, c := range []struct {
		op, a, b int
		pc       int
		r        [4]int
		o        api.Outcome
	}{
		{api.OpHalt, 0, 0, 5, r, api.Outcome{Call: -1, Halt: true}},
		{api.OpSet, 1, 7, 6, [4]int{7, 7, -3, 4}, quiet()},
		{api.OpSet, 2, -edge, 6, [4]int{7, 1, -edge, 4}, quiet()},
		{api.OpSet, 3, edge, 6, [4]int{7, 1, -3, edge}, quiet()},
		{api.OpMove, 0, 2, 6, [4]int{-3, 1, -3, 4}, quiet()},
		{api.OpMove, 3, 3, 6, r, quiet()},
		{api.OpAdd, 0, 3, 6, [4]int{11, 1, -3, 4}, quiet()},
		{api.OpAdd, 3, 3, 6, [4]int{7, 1, -3, 8}, quiet()},
		{api.OpSub, 1, 0, 6, [4]int{7, -6, -3, 4}, quiet()},
		{api.OpSub, 0, 1, 6, [4]int{6, 1, -3, 4}, quiet()},
		{api.OpSub, 2, 2, 6, [4]int{7, 1, 0, 4}, quiet()},
		{api.OpMul, 2, 0, 6, [4]int{7, 1, -21, 4}, quiet()},
		{api.OpMul, 2, 2, 6, [4]int{7, 1, 9, 4}, quiet()},
		{api.OpDiv, 0, 2, 6, [4]int{-2, 1, -3, 4}, quiet()},
		{api.OpDiv, 2, 0, 6, [4]int{7, 1, 0, 4}, quiet()},
		{api.OpLess, 2, 1, 6, [4]int{7, 1, 1, 4}, quiet()},
		{api.OpLess, 0, 3, 6, [4]int{0, 1, -3, 4}, quiet()},
		{api.OpLess, 3, 3, 6, [4]int{7, 1, -3, 0}, quiet()},
		{api.OpLoad, 0, 1, 6, [4]int{-101, 1, -3, 4}, seen(-101)},
		{api.OpLoad, 3, 3, 6, [4]int{7, 1, -3, math.MaxInt}, seen(math.MaxInt)},
		{api.OpStore, 2, 1, 6, r, quiet()},
		{api.OpJump, 0, 0, 0, r, quiet()},
		{api.OpJump, 0, 5, 5, r, quiet()},
		{api.OpJump, 0, 63, 63, r, quiet()},
		{api.OpZero, 1, 63, 6, r, quiet()},
		{api.OpHalf, 0, 0, 6, [4]int{4, 1, -3, 4}, quiet()},
		{api.OpHalf, 1, 0, 6, [4]int{7, 0, -3, 4}, quiet()},
		{api.OpTwice, 3, 0, 6, [4]int{7, 1, -3, 8}, quiet()},
		{api.OpFlip, 1, 0, 6, [4]int{7, math.MinInt + 1, -3, 4}, quiet()},
		{api.OpBelow, 1, 3, 6, [4]int{7, 1, -3, 4}, quiet()},
		{api.OpBelow, 0, 3, 6, [4]int{0, 1, -3, 4}, quiet()},
		{api.OpReal, 0, 0, 6, [4]int{seven, 1, -3, 4}, quiet()},
		{api.OpWhole, 3, 0, 6, [4]int{7, 1, -3, 0}, quiet()},
		{api.OpClock, 3, 0, 6, [4]int{7, 1, -3, now}, seen(now)},
		{api.OpCall, 0, 25, 6, r, api.Outcome{Call: 25}},
	} {
		i := api.Instr{Op: c.op, A: c.a, B: c.b}
		want := memory()
		if c.op == api.OpStore {
			want[1] = -3
		}
		d, n, o := cpu.Step(at(5, i), api.Core{PC: 5, R: r}, memory(), regions(), now)
		if d != (api.Core{PC: c.pc, R: c.r}) || !slices.Equal(n, want) || o != c.o {
			t.Errorf("%v: %v, %v, %+v", i, d, n, o)
		}
	}
}

// P5.1: a PC ahead of the first instruction, at the last one, behind it; no code, nil or empty; more code than a program may have.
func TestPlacesOfCode(t *testing.T) {
	set := api.Instr{Op: api.OpSet, A: 1, B: 7}
	for _, size := range []int{0, 1, 2, 3, 64, 65, 200} {
		code := make([]api.Instr, size)
		for pc := range code {
			code[pc] = set
		}
		for _, pc := range []int{math.MinInt, math.MinInt + 1, -size - 1, -size, -2, -1, 0, 1, 2, 3, size - 1, size, size + 1, 63, 64, 65, 1 << 32, math.MaxInt - 1, math.MaxInt} {
			c := api.Core{PC: pc, R: [4]int{1, 2, 3, 4}}
			d, n, o := cpu.Step(code, c, memory(), regions(), now)
			want, outcome := c, faulty(api.IllegalRequest)
			if pc >= 0 && pc < size {
				want, outcome = api.Core{PC: pc + 1, R: [4]int{1, 7, 3, 4}}, quiet()
			}
			if d != want || !slices.Equal(n, memory()) || o != outcome {
				t.Error(size, pc, d, n, o)
			}
		}
	}
	for _, code := range [][]api.Instr{nil, {}} {
		if d, _, o := cpu.Step(code, api.Core{}, memory(), regions(), now); d != (api.Core{}) || o != faulty(api.IllegalRequest) {
			t.Error(code, d, o)
		}
	}
}

// P5.1: only the instruction of the PC is asked: what may not be elsewhere is no fault.
func TestOtherInstructionsAreNotAsked(t *testing.T) {
	bad := api.Instr{Op: 99, A: -1, B: math.MaxInt}
	code := []api.Instr{bad, {Op: api.OpSet, A: 1, B: 7}, bad}
	for pc, want := range []api.Outcome{faulty(api.IllegalRequest), quiet(), faulty(api.IllegalRequest)} {
		if _, _, o := cpu.Step(code, api.Core{PC: pc}, memory(), regions(), now); o != want {
			t.Error(pc, o)
		}
	}
}

// P5.1, P5.2, R1: every operation with every A and B that may not be is IllegalRequest, and does nothing.
func TestWhatMayNotBe(t *testing.T) {
	c := api.Core{PC: 1, R: [4]int{0, 1, 2, 3}}
	count := 0
	for _, op := range ops() {
		for _, a := range numbers() {
			for _, b := range numbers() {
				i := api.Instr{Op: op, A: a, B: b}
				if mayBe(i) {
					continue
				}
				count++
				d, n, o := cpu.Step(at(1, i), c, memory(), regions(), now)
				if d != c || !slices.Equal(n, memory()) || o != faulty(api.IllegalRequest) {
					t.Fatal(i, d, n, o)
				}
			}
		}
	}
	if count == 0 {
		t.Error("nothing was asked")
	}
}

// R2: an instruction that may not be is told ahead of what it would do wrong.
func TestIllegalComesFirst(t *testing.T) {
	for _, i := range []api.Instr{{Op: api.OpDiv, A: 4, B: 0}, {Op: api.OpDiv, A: 0, B: -1}, {Op: api.OpLoad, A: 4, B: 1}, {Op: api.OpStore, A: -1, B: 1}, {Op: api.OpStore, A: 1, B: 4}} {
		c := api.Core{R: [4]int{0, -1, -1, -1}}
		if d, _, o := cpu.Step([]api.Instr{i}, c, nil, nil, now); d != c || o != faulty(api.IllegalRequest) {
			t.Error(i, d, o)
		}
	}
}

// stepped is what RX becomes, where RX and RY are registers 2 and 1.
func stepped(t *testing.T, op, x, y int) (int, api.Outcome) {
	t.Helper()
	i := api.Instr{Op: op, A: 2}
	if mayBe(api.Instr{Op: op, A: 2, B: 1}) {
		i.B = 1
	}
	c := api.Core{PC: 3, R: [4]int{77, y, x, 88}}
	d, n, o := cpu.Step(at(3, i), c, memory(), regions(), now)
	if d.R[0] != 77 || d.R[1] != y || d.R[3] != 88 || !slices.Equal(n, memory()) {
		t.Error("something else was touched", i, d, n)
	}
	if o.Fault != api.NoFault && d != c || o.Fault == api.NoFault && d.PC != 4 {
		t.Error("the core went elsewhere", i, d, o)
	}
	return d.R[2], o
}

// P5.1, P5.2: by 0 there is a fault, and all stays; the least number by -1 wraps around.
func TestDivisions(t *testing.T) {
	for _, x := range words() {
		if got, o := stepped(t, api.OpDiv, x, 0); got != x || o != faulty(api.NumericError) {
			t.Error(x, got, o)
		}
	}
	for _, c := range [][3]int{{-7, 2, -3}, {7, -2, -3}, {-7, -2, 3}, {0, 5, 0}, {5, 7, 0}, {math.MinInt, -1, math.MinInt}, {math.MinInt, 1, math.MinInt}, {math.MinInt, math.MinInt, 1}, {math.MaxInt, -1, -math.MaxInt}, {math.MaxInt, math.MinInt, 0}, {math.MinInt, math.MaxInt, -1}} {
		if got, o := stepped(t, api.OpDiv, c[0], c[1]); got != c[2] || o != quiet() {
			t.Error(c, got, o)
		}
	}
	for reg := range 4 {
		c := api.Core{R: [4]int{9, 9, 9, 9}}
		c.R[reg] = 0
		d, _, o := cpu.Step([]api.Instr{{Op: api.OpDiv, A: reg, B: reg}}, c, nil, nil, now)
		if d != c || o != faulty(api.NumericError) {
			t.Error("0 by itself", reg, d, o)
		}
	}
}

// P5.1, R7: sums, differences and products that wrap around.
func TestWrapAround(t *testing.T) {
	for _, c := range []struct{ op, x, y, want int }{
		{api.OpAdd, math.MaxInt, 1, math.MinInt},
		{api.OpAdd, math.MinInt, -1, math.MaxInt},
		{api.OpAdd, math.MinInt, math.MinInt, 0},
		{api.OpAdd, math.MaxInt, math.MaxInt, -2},
		{api.OpAdd, math.MaxInt, math.MinInt, -1},
		{api.OpSub, math.MinInt, 1, math.MaxInt},
		{api.OpSub, math.MaxInt, -1, math.MinInt},
		{api.OpSub, 0, math.MinInt, math.MinInt},
		{api.OpSub, math.MinInt, math.MaxInt, 1},
		{api.OpSub, -1, math.MinInt, math.MaxInt},
		{api.OpMul, math.MaxInt, 2, -2},
		{api.OpMul, math.MinInt, -1, math.MinInt},
		{api.OpMul, math.MinInt, 2, 0},
		{api.OpMul, math.MaxInt, math.MaxInt, 1},
		{api.OpMul, 1 << 32, 1 << 32, 0},
		{api.OpMul, 1 << 32, 1 << 31, math.MinInt},
		{api.OpMul, 3037000500, 3037000500, -9223372036709301616},
	} {
		if got, o := stepped(t, c.op, c.x, c.y); got != c.want || o != quiet() {
			t.Error(c, got, o)
		}
	}
}

// P5.1: Less is of whole numbers, with no difference that wraps around.
func TestLess(t *testing.T) {
	for _, c := range [][3]int{{1, 2, 1}, {2, 2, 0}, {3, 2, 0}, {-1, 0, 1}, {0, -1, 0}, {math.MinInt, math.MaxInt, 1}, {math.MaxInt, math.MinInt, 0}, {math.MinInt, math.MinInt, 0}, {math.MinInt, math.MinInt + 1, 1}, {-2, math.MaxInt, 1}, {math.MaxInt, -2, 0}, {sign | one, sign | two, 1}} {
		if got, o := stepped(t, api.OpLess, c[0], c[1]); got != c[2] || o != quiet() {
			t.Error(c, got, o)
		}
	}
}

// P5.1, P5.2: a word that is none, that no region has, that may be read, that may be written too.
func TestWordsOfEachKind(t *testing.T) {
	const open, shut = api.NoFault, api.MemoryViolation
	for _, c := range []struct{ at, load, store int }{
		{math.MinInt, shut, shut}, {-1 << 32, shut, shut}, {-1, shut, shut}, {0, open, open}, {1, open, open}, {2, shut, shut}, {3, open, shut}, {4, open, shut}, {5, shut, shut}, {7, shut, shut}, {8, shut, shut}, {9, shut, shut}, {1 << 32, shut, shut}, {math.MaxInt, shut, shut},
	} {
		before := api.Core{PC: 2, R: [4]int{9, 55, 8, c.at}}
		d, n, o := cpu.Step(at(2, api.Instr{Op: api.OpLoad, A: 1, B: 3}), before, memory(), regions(), now)
		want, outcome := before, faulty(c.load)
		if c.load == open {
			value := memory()[c.at]
			want, outcome = api.Core{PC: 3, R: [4]int{9, value, 8, c.at}}, seen(value)
		}
		if d != want || !slices.Equal(n, memory()) || o != outcome {
			t.Error("load", c.at, d, n, o)
		}
		d, n, o = cpu.Step(at(2, api.Instr{Op: api.OpStore, A: 1, B: 3}), before, memory(), regions(), now)
		want, words := before, memory()
		if c.store == open {
			want.PC, words[c.at] = 3, 55
		}
		if d != want || !slices.Equal(n, words) || o != faulty(c.store) {
			t.Error("store", c.at, d, n, o)
		}
	}
}

// P5.1, R6: a memory without words, and one without regions, nil or empty: no word may be touched.
func TestWithoutWordsOrRegions(t *testing.T) {
	for _, op := range []int{api.OpLoad, api.OpStore} {
		for _, m := range [][]int{nil, {}, memory()} {
			for _, l := range [][]api.Region{nil, {}, regions()} {
				if len(m) > 0 && len(l) > 0 {
					continue
				}
				for _, at := range words() {
					c := api.Core{R: [4]int{5, at, 0, 0}}
					d, n, o := cpu.Step([]api.Instr{{Op: op, A: 0, B: 1}}, c, m, l, now)
					if d != c || !slices.Equal(n, m) || o != faulty(api.MemoryViolation) {
						t.Fatal(op, m, l, at, d, n, o)
					}
				}
			}
		}
	}
}

// P5.1: a word of 0 that is loaded is told too: Read, with the Value 0.
func TestReadOfNought(t *testing.T) {
	c := api.Core{R: [4]int{5, 0, 0, 0}}
	if d, _, o := cpu.Step([]api.Instr{{Op: api.OpLoad, A: 0, B: 1}}, c, []int{0}, regions(), now); d.R[0] != 0 || o != seen(0) {
		t.Error("load", d, o)
	}
	if d, _, o := cpu.Step([]api.Instr{{Op: api.OpClock}}, c, nil, nil, 0); d.R[0] != 0 || o != seen(0) {
		t.Error("clock", d, o)
	}
}

// P5.1: a clock is what it is told, whatever that is.
func TestClock(t *testing.T) {
	for _, tick := range words() {
		for reg := range 4 {
			c := api.Core{R: [4]int{11, 12, 13, 14}}
			want := c
			want.PC, want.R[reg] = 1, tick
			if d, _, o := cpu.Step([]api.Instr{{Op: api.OpClock, A: reg}}, c, nil, nil, tick); d != want || o != seen(tick) {
				t.Error(tick, reg, d, o)
			}
		}
	}
}

// P5.1: Zero goes there for 0 alone; a real -0 is another word.
func TestZero(t *testing.T) {
	for _, x := range words() {
		for _, to := range []int{0, 1, 2, 4, 63} {
			c := api.Core{PC: 2, R: [4]int{1, 2, 3, x}}
			want := c
			want.PC = 3
			if x == 0 {
				want.PC = to
			}
			d, n, o := cpu.Step(at(2, api.Instr{Op: api.OpZero, A: 3, B: to}), c, memory(), regions(), now)
			if d != want || !slices.Equal(n, memory()) || o != quiet() {
				t.Error(x, to, d, o)
			}
		}
	}
}

// P5.1: real numbers that are none, infinite, the least, the greatest, and ordinary ones.
func TestRealNumbers(t *testing.T) {
	for _, c := range []struct{ op, x, want int }{
		{api.OpHalf, one, half}, {api.OpHalf, two, one}, {api.OpHalf, least, 0}, {api.OpHalf, 3, 2}, {api.OpHalf, sign | least, sign}, {api.OpHalf, 0, 0}, {api.OpHalf, sign, sign}, {api.OpHalf, infinite, infinite}, {api.OpHalf, sign | infinite, sign | infinite}, {api.OpHalf, infinite + 1, none}, {api.OpHalf, none, none}, {api.OpHalf, -1, none}, {api.OpHalf, greatest, 0x7fdfffffffffffff},
		{api.OpTwice, half, one}, {api.OpTwice, least, 2}, {api.OpTwice, greatest, infinite}, {api.OpTwice, sign | greatest, sign | infinite}, {api.OpTwice, infinite, infinite}, {api.OpTwice, sign, sign}, {api.OpTwice, infinite + 1, none}, {api.OpTwice, -1, none},
		{api.OpFlip, one, sign | one}, {api.OpFlip, sign | one, one}, {api.OpFlip, 0, sign}, {api.OpFlip, sign, 0}, {api.OpFlip, least, sign | least}, {api.OpFlip, infinite, sign | infinite}, {api.OpFlip, none, none}, {api.OpFlip, -1, none},
		{api.OpReal, 0, 0}, {api.OpReal, 1, one}, {api.OpReal, 7, seven}, {api.OpReal, -1, sign | one}, {api.OpReal, whole, 0x4340 << 48}, {api.OpReal, whole + 1, 0x4340 << 48}, {api.OpReal, math.MaxInt, 0x4340 << 48}, {api.OpReal, math.MinInt, sign | 0x4340<<48},
		{api.OpWhole, one, 1}, {api.OpWhole, half, 0}, {api.OpWhole, sign | seven, -7}, {api.OpWhole, sign, 0}, {api.OpWhole, least, 0}, {api.OpWhole, infinite, whole}, {api.OpWhole, sign | infinite, -whole}, {api.OpWhole, greatest, whole}, {api.OpWhole, none, 0}, {api.OpWhole, -1, 0},
	} {
		if got, o := stepped(t, c.op, c.x, 99); got != c.want || o != quiet() {
			t.Errorf("%d of %x: %x, %+v", c.op, uint64(c.x), uint64(got), o)
		}
	}
}

// P5.1: Below is of real numbers: by their sign, -0 as 0, and never of no number.
func TestBelow(t *testing.T) {
	for _, c := range [][3]int{{half, one, 1}, {one, half, 0}, {one, one, 0}, {sign | two, sign | one, 1}, {sign | one, sign | two, 0}, {sign | one, one, 1}, {sign, 0, 0}, {0, sign, 0}, {0, least, 1}, {sign | least, sign, 1}, {sign | least, 0, 1}, {greatest, infinite, 1}, {sign | infinite, sign | greatest, 1}, {infinite, infinite, 0}, {none, one, 0}, {one, none, 0}, {none, none, 0}, {sign | none, one, 0}, {one, infinite + 1, 0}, {sign | infinite, none, 0}} {
		if got, o := stepped(t, api.OpBelow, c[0], c[1]); got != c[2] || o != quiet() {
			t.Errorf("%x, %x: %d, %+v", uint64(c[0]), uint64(c[1]), got, o)
		}
	}
}

// P5.1: each call's number is told, 0 too, and the registers stay for who answers it.
func TestCalls(t *testing.T) {
	c := api.Core{PC: 1, R: [4]int{5, 6, 7, 8}}
	want := api.Core{PC: 2, R: c.R}
	for number := range api.Calls {
		d, n, o := cpu.Step(at(1, api.Instr{Op: api.OpCall, B: number}), c, memory(), regions(), now)
		if d != want || !slices.Equal(n, memory()) || o != (api.Outcome{Call: number}) {
			t.Error(number, d, n, o)
		}
	}
}

// each goes through all instructions with all pairs of telling words as RX and RY, and through wrong ones with some.
func each(see func(code []api.Instr, c api.Core)) {
	w := words()
	for _, op := range ops() {
		for a := -1; a <= 4; a++ {
			for b := -1; b <= 4; b++ {
				i := api.Instr{Op: op, A: a, B: b}
				for k, x := range w {
					others := w
					if !mayBe(i) {
						others = w[:1]
					}
					for j, y := range others {
						see(at(2, i), filled(i, w[(k+j)%len(w)], x, y))
					}
				}
			}
		}
	}
}

// filled is a core whose RX and RY are these, where A and B are registers; the others have a third word.
func filled(i api.Instr, third, x, y int) api.Core {
	c := api.Core{PC: 2, R: [4]int{third, third, third, third}}
	if i.B >= 0 && i.B < 4 {
		c.R[i.B] = y
	}
	if i.A >= 0 && i.A < 4 {
		c.R[i.A] = x
	}
	return c
}

// P5.1: every operation, with registers of telling words, held against the chapter's words; R1: none panics.
func TestStepByTheList(t *testing.T) {
	m, l := memory(), regions()
	each(func(code []api.Instr, c api.Core) { check(t, code, c, m, l, now) })
	for _, op := range ops() {
		for _, a := range numbers() {
			for _, b := range numbers() {
				check(t, at(2, api.Instr{Op: op, A: a, B: b}), api.Core{PC: 2, R: [4]int{0, 1, 2, 3}}, m, l, now)
			}
		}
	}
}

// P5.1, P5.2, R1: regions of all kinds, also such as may not be, and memories of all sizes.
func TestStepOverRegions(t *testing.T) {
	ends := []int{math.MinInt, math.MinInt + 1, -2, -1, 0, 1, 2, 3, 63, 64, 65, math.MaxInt - 1, math.MaxInt}
	for _, size := range []int{0, 1, 3, 64, 65} {
		m := make([]int, size)
		for k := range m {
			m[k] = 1000 + k
		}
		for _, from := range ends {
			for _, length := range ends {
				for _, l := range [][]api.Region{{{From: from, Len: length}}, {{From: from, Len: length, Write: true}}, {{From: 0, Len: 1}, {From: from, Len: length, Write: true}}} {
					for _, at := range ends {
						c := api.Core{R: [4]int{at, 5, 0, 0}}
						check(t, []api.Instr{{Op: api.OpLoad, A: 1, B: 0}}, c, m, l, now)
						check(t, []api.Instr{{Op: api.OpStore, A: 1, B: 0}}, c, m, l, now)
					}
				}
			}
		}
	}
}

// P5.1: an outcome tells at most one thing, and a Value only with Read.
func TestOutcomesTellOneThing(t *testing.T) {
	m, l := memory(), regions()
	each(func(code []api.Instr, c api.Core) {
		_, _, o := cpu.Step(code, c, m, l, now)
		told := oneIf(o.Fault != api.NoFault) + oneIf(o.Halt) + oneIf(o.Read) + oneIf(o.Call != -1)
		if told > 1 || !o.Read && o.Value != 0 || o.Call < -1 || o.Call >= api.Calls {
			t.Fatal(code[2], c, o)
		}
	})
}

// P5.2: a step that has a fault does nothing: core, PC and memory are as they were.
func TestFaultsDoNothing(t *testing.T) {
	m, l := memory(), regions()
	var faults [api.Faults]int
	each(func(code []api.Instr, c api.Core) {
		d, n, o := cpu.Step(code, c, m, l, now)
		if o.Fault == api.NoFault {
			return
		}
		faults[o.Fault]++
		if d != c || !slices.Equal(n, memory()) || o != faulty(o.Fault) {
			t.Fatal(code[2], c, d, n, o)
		}
	})
	for fault, count := range faults {
		can := fault == api.IllegalRequest || fault == api.NumericError || fault == api.MemoryViolation
		if can != (count > 0) {
			t.Error(fault, count)
		}
	}
}

// P5.2: words that no region allows are not read: what they are changes nothing of core and outcome. None but a word that may be written is written, and that by Store alone.
func TestOtherWordsAreNotTouched(t *testing.T) {
	l := regions()
	m, other := memory(), memory()
	for _, k := range []int{2, 5, 6, 7} {
		other[k] = -other[k]
	}
	each(func(code []api.Instr, c api.Core) {
		d, n, o := cpu.Step(code, c, m, l, now)
		e, k, p := cpu.Step(code, c, other, l, now)
		if d != e || o != p {
			t.Fatal("a word was read", code[2], c, d, e, o, p)
		}
		if !slices.Equal(n[2:], m[2:]) || !slices.Equal(k[2:], other[2:]) || len(n) != len(m) {
			t.Fatal("a word was written", code[2], c, n, k)
		}
		if code[2].Op != api.OpStore && !slices.Equal(n, m) {
			t.Fatal("it is no Store, but stored", code[2], c, n)
		}
	})
}

// P5.1: the tick is seen by Clock alone.
func TestOnlyClockSeesTheTick(t *testing.T) {
	m, l := memory(), regions()
	each(func(code []api.Instr, c api.Core) {
		d, n, o := cpu.Step(code, c, m, l, now)
		e, k, p := cpu.Step(code, c, m, l, now+1)
		if same := d == e && slices.Equal(n, k) && o == p; same == (code[2].Op == api.OpClock && o.Fault == api.NoFault) {
			t.Fatal(code[2], c, d, e, o, p)
		}
	})
}

// P5.1, P5.2: a program: it sums what is in words 3 down to 1, stores that as word 0, and stops where it is.
func TestProgram(t *testing.T) {
	code := []api.Instr{
		{Op: api.OpSet, A: 0, B: 3},
		{Op: api.OpSet, A: 3, B: 1},
		{Op: api.OpZero, A: 0, B: 7},
		{Op: api.OpLoad, A: 2, B: 0},
		{Op: api.OpAdd, A: 1, B: 2},
		{Op: api.OpSub, A: 0, B: 3},
		{Op: api.OpJump, B: 2},
		{Op: api.OpStore, A: 1, B: 0},
		{Op: api.OpHalt},
	}
	l := []api.Region{{From: 0, Len: 1, Write: true}, {From: 1, Len: 3}}
	c, m := api.Core{}, []int{9, 20, 300, 4000}
	var read []int
	var o api.Outcome
	steps := 0
	for ; steps < 100 && !o.Halt && o.Fault == api.NoFault; steps++ {
		c, m, o = cpu.Step(code, c, m, l, steps)
		if o.Read {
			read = append(read, o.Value)
		}
	}
	if steps != 20 || c != (api.Core{PC: 8, R: [4]int{0, 4320, 20, 1}}) || !slices.Equal(m, []int{4320, 20, 300, 4000}) {
		t.Error(steps, c, m, o)
	}
	if !slices.Equal(read, []int{4000, 300, 20}) {
		t.Error(read)
	}
	if d, _, again := cpu.Step(code, c, m, l, steps); d != c || !again.Halt {
		t.Error("it goes on", d, again)
	}
}

// R3: what is handed in stays, also behind its length, and what is answered shares nothing with it, with a fault too.
func TestArgumentsStay(t *testing.T) {
	for _, i := range []api.Instr{{}, {Op: api.OpSet, A: 1, B: 5}, {Op: api.OpLoad, A: 2, B: 0}, {Op: api.OpStore, A: 1, B: 0}, {Op: api.OpStore, A: 1, B: 3}, {Op: api.OpDiv, A: 1, B: 0}, {Op: api.OpCall, B: 3}, {Op: 99}} {
		code, m, l := append(at(0, i), api.Instr{Op: 5}), memory(), regions()
		program, given, all := slices.Clone(code), slices.Clone(m), slices.Clone(l)
		c := api.Core{R: [4]int{0, 44, 2, 3}}
		_, n, _ := cpu.Step(code[:1], c, m[:4], l[:1], now)
		_, again, _ := cpu.Step(code[:1], c, m[:4], l[:1], now)
		if !slices.Equal(code, program) || !slices.Equal(m, given) || !slices.Equal(l, all) || c != (api.Core{R: [4]int{0, 44, 2, 3}}) {
			t.Fatal("an argument was changed", i, code, m, l)
		}
		want := slices.Clone(n)
		for k := range m {
			m[k] = -1
		}
		for k := range again {
			again[k] = -2
		}
		_ = append(again, -3)
		if !slices.Equal(n, want) || len(n) != 4 {
			t.Error("an answer was changed", i, n)
		}
		for k := range n {
			n[k] = -4
		}
		_ = append(n, -4)
		if slices.Contains(m, -4) || slices.Contains(again, -4) {
			t.Error("an answer is shared", i, m, again)
		}
	}
}

// R5: what is asked again is answered again, whatever was asked in between.
func TestAnswersHangOnArgumentsAlone(t *testing.T) {
	m, l := memory(), regions()
	c := api.Core{PC: 2, R: [4]int{0, 1, 3, -8}}
	for _, op := range ops() {
		for _, a := range numbers() {
			for _, b := range numbers() {
				code := at(2, api.Instr{Op: op, A: a, B: b})
				d, n, o := cpu.Step(code, c, m, l, now)
				cpu.Step(at(0, api.Instr{Op: api.OpStore}), api.Core{}, m, l, 1)
				cpu.Step(nil, c, nil, nil, 2)
				cpu.Step(at(0, api.Instr{Op: api.OpClock}), api.Core{}, nil, nil, 3)
				if e, k, p := cpu.Step(code, c, m, l, now); d != e || !slices.Equal(n, k) || o != p {
					t.Fatal(code[2], d, e, n, k, o, p)
				}
			}
		}
	}
}
