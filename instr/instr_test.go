package instr_test

import (
	"bytes"
	"math"
	"math/big"
	"slices"
	"testing"

	"quarterdeck/api"
	"quarterdeck/instr"
)

// edge is the greatest number that Set takes; the least one is as far on the other side of 0.
const edge = 1 << 39

// telling are numbers around each bound of the chapter, and the least and the greatest ones.
func telling() []int {
	return []int{math.MinInt, math.MinInt + 1, math.MinInt / 2, -1<<40 - 1, -1 << 40, -edge - 1, -edge, -edge + 1, -1 << 32, -65, -64, -63, -26, -4, -3, -2, -1, 0, 1, 2, 3, 4, 5, 19, 20, 24, 25, 26, 27, 62, 63, 64, 65, 127, 128, 1 << 32, edge - 1, edge, edge + 1, 1<<40 - 1, 1 << 40, 1<<40 + 1, math.MaxInt/2 + 1, math.MaxInt - 1, math.MaxInt}
}

// ops are all operations, what lies beyond them, and numbers that are far from them.
func ops() []int {
	l := []int{math.MinInt, math.MinInt + 1, -1 << 32, -20, 100, 128, 1 << 32, 1 << 40, math.MaxInt - 1, math.MaxInt}
	for op := -2; op <= 22; op++ {
		l = append(l, op)
	}
	return l
}

// mayBe goes by the chapter's words, operation by operation.
func mayBe(i api.Instr) bool {
	register := func(n int) bool { return n == 0 || n == 1 || n == 2 || n == 3 }
	place := func(n int) bool { return 0 <= n && n < 64 }
	switch i.Op {
	case api.OpHalt:
		return i.A == 0 && i.B == 0
	case api.OpSet:
		return register(i.A) && -549755813888 <= i.B && i.B <= 549755813888
	case api.OpMove, api.OpAdd, api.OpSub, api.OpMul, api.OpDiv, api.OpLess, api.OpLoad, api.OpStore, api.OpBelow:
		return register(i.A) && register(i.B)
	case api.OpJump:
		return i.A == 0 && place(i.B)
	case api.OpZero:
		return register(i.A) && place(i.B)
	case api.OpHalf, api.OpTwice, api.OpFlip, api.OpReal, api.OpWhole, api.OpClock:
		return register(i.A) && i.B == 0
	case api.OpCall:
		return i.A == 0 && 0 <= i.B && i.B < 26
	}
	return false
}

// encoded are an instruction's bytes, by numbers without bound.
func encoded(i api.Instr) []byte {
	last := new(big.Int).Mul(big.NewInt(2), big.NewInt(int64(i.B)))
	if i.B < 0 {
		last.Neg(last).Sub(last, big.NewInt(1))
	}
	var all []byte
	for _, n := range []*big.Int{big.NewInt(int64(i.Op)), big.NewInt(int64(i.A)), last} {
		digits := n.Text(2)
		for len(digits) > 7 {
			low, _ := new(big.Int).SetString(digits[len(digits)-7:], 2)
			all = append(all, byte(low.Int64())|0x80)
			digits = digits[:len(digits)-7]
		}
		top, _ := new(big.Int).SetString(digits, 2)
		all = append(all, byte(top.Int64()))
	}
	return all
}

// samples are instructions that may be: each operation with what it takes, at both ends and in between.
func samples() []api.Instr {
	var l []api.Instr
	for _, op := range ops() {
		for _, a := range telling() {
			for _, b := range telling() {
				if i := (api.Instr{Op: op, A: a, B: b}); mayBe(i) {
					l = append(l, i)
				}
			}
		}
	}
	return l
}

// P4.1: what each operation takes, at each bound and just beyond it.
func TestMayAtEachBound(t *testing.T) {
	registers := map[int]bool{-1: false, 0: true, 3: true, 4: false, math.MinInt: false, math.MaxInt: false}
	places := map[int]bool{-1: false, 0: true, 63: true, 64: false, math.MinInt: false, math.MaxInt: false}
	calls := map[int]bool{-1: false, 0: true, 25: true, 26: false, math.MinInt: false, math.MaxInt: false}
	numbers := map[int]bool{-edge - 1: false, -edge: true, -1: true, 0: true, 4: true, edge: true, edge + 1: false, math.MinInt: false, math.MaxInt: false}
	nothing := map[int]bool{-1: false, 0: true, 1: false, math.MinInt: false, math.MaxInt: false}
	check := func(op int, as, bs map[int]bool) {
		t.Helper()
		for a, mayA := range as {
			for b, mayB := range bs {
				if i := (api.Instr{Op: op, A: a, B: b}); instr.May(i) != (mayA && mayB) {
					t.Error(i, instr.May(i))
				}
			}
		}
	}
	check(api.OpHalt, nothing, nothing)
	check(api.OpSet, registers, numbers)
	for _, op := range []int{api.OpMove, api.OpAdd, api.OpSub, api.OpMul, api.OpDiv, api.OpLess, api.OpLoad, api.OpStore, api.OpBelow} {
		check(op, registers, registers)
	}
	check(api.OpJump, nothing, places)
	check(api.OpZero, registers, places)
	for _, op := range []int{api.OpHalf, api.OpTwice, api.OpFlip, api.OpReal, api.OpWhole, api.OpClock} {
		check(op, registers, nothing)
	}
	check(api.OpCall, nothing, calls)
}

// P4.1: the first and the last operation may be, and what lies beyond them may not, whatever A and B are.
func TestMayOfNoOperation(t *testing.T) {
	if !instr.May(api.Instr{Op: 0}) || !instr.May(api.Instr{Op: 19}) {
		t.Error("the first or the last one may not be")
	}
	for _, op := range []int{math.MinInt, -1 << 32, -20, -1, 20, 21, 128, 256, 1 << 32, 1 << 40, math.MaxInt} {
		for _, a := range telling() {
			for _, b := range telling() {
				if instr.May(api.Instr{Op: op, A: a, B: b}) {
					t.Fatal(op, a, b)
				}
			}
		}
	}
}

// P4.1: every operation with every telling A and B, held against the chapter's words; R1: none panics.
func TestMayByTheList(t *testing.T) {
	for _, op := range ops() {
		for _, a := range telling() {
			for _, b := range telling() {
				if i := (api.Instr{Op: op, A: a, B: b}); instr.May(i) != mayBe(i) {
					t.Fatal(i, instr.May(i))
				}
			}
		}
	}
}

// P4.1: the bytes of the chapter's examples, and of numbers at the ends.
func TestPutOfKnownBytes(t *testing.T) {
	for _, c := range []struct {
		i    api.Instr
		want []byte
	}{
		{api.Instr{}, []byte{0, 0, 0}},
		{api.Instr{Op: api.OpSet, A: 1, B: -3}, []byte{1, 1, 5}},
		{api.Instr{Op: api.OpSet, A: 1, B: 3}, []byte{1, 1, 6}},
		{api.Instr{Op: api.OpSet, B: 0}, []byte{1, 0, 0}},
		{api.Instr{Op: api.OpSet, B: -1}, []byte{1, 0, 1}},
		{api.Instr{Op: api.OpSet, B: 1}, []byte{1, 0, 2}},
		{api.Instr{Op: api.OpSet, B: -64}, []byte{1, 0, 127}},
		{api.Instr{Op: api.OpSet, B: 64}, []byte{1, 0, 128, 1}},
		{api.Instr{Op: api.OpSet, A: 3, B: 150}, []byte{1, 3, 172, 2}},
		{api.Instr{Op: api.OpSet, A: 3, B: -edge}, []byte{1, 3, 255, 255, 255, 255, 255, 31}},
		{api.Instr{Op: api.OpSet, A: 3, B: edge}, []byte{1, 3, 128, 128, 128, 128, 128, 32}},
		{api.Instr{Op: api.OpJump, B: 63}, []byte{10, 0, 126}},
		{api.Instr{Op: api.OpZero, A: 2, B: 63}, []byte{11, 2, 126}},
		{api.Instr{Op: api.OpBelow, A: 3, B: 2}, []byte{15, 3, 4}},
		{api.Instr{Op: api.OpClock, A: 3}, []byte{18, 3, 0}},
		{api.Instr{Op: api.OpCall, B: 2}, []byte{19, 0, 4}},
		{api.Instr{Op: api.OpCall, B: 25}, []byte{19, 0, 50}},
	} {
		if b, e := instr.Put(c.i); e != api.OK || !bytes.Equal(b, c.want) {
			t.Error(c.i, b, e)
		}
		if i, size, e := instr.Get(c.want); e != api.OK || i != c.i || size != len(c.want) {
			t.Error(c.want, i, size, e)
		}
	}
}

// P4.1, R4: an instruction that may not be has ErrArg and no bytes, any other one its bytes.
func TestPutByTheList(t *testing.T) {
	for _, op := range ops() {
		for _, a := range telling() {
			for _, b := range telling() {
				i := api.Instr{Op: op, A: a, B: b}
				got, e := instr.Put(i)
				if !mayBe(i) {
					if e != api.ErrArg || len(got) != 0 {
						t.Fatal(i, got, e)
					}
				} else if e != api.OK || !bytes.Equal(got, encoded(i)) {
					t.Fatal(i, got, e)
				}
			}
		}
	}
}

// P4.1, P4.3: what was put is got back, also ahead of other bytes, whatever these are.
func TestPutIsGotBack(t *testing.T) {
	for _, want := range samples() {
		b, e := instr.Put(want)
		if e != api.OK {
			t.Fatal(want, e)
		}
		for _, behind := range [][]byte{nil, {0}, {255}, {128, 0}, {1, 1, 5}, {255, 255, 255, 255, 255, 255, 255}} {
			if i, size, e := instr.Get(slices.Concat(b, behind)); e != api.OK || i != want || size != len(b) {
				t.Fatal(want, behind, i, size, e)
			}
		}
	}
}

// P4.1, R4: bytes that end within an instruction, in whichever of its numbers, have ErrMore.
func TestGetOfTooFewBytes(t *testing.T) {
	for _, i := range samples() {
		b := encoded(i)
		for n := range len(b) {
			wrong(t, b[:n], api.ErrMore)
		}
	}
	for _, b := range [][]byte{nil, {}, {128}, {255, 255, 255, 255, 255}, {1}, {1, 128}, {1, 129, 255}, {1, 1}, {1, 1, 128}, {1, 1, 255, 255, 255, 255, 255}} {
		wrong(t, b, api.ErrMore)
	}
}

// wrong holds Get and Unpack against an error, which comes with noughts.
func wrong(t *testing.T, b []byte, want api.Errno) {
	t.Helper()
	if i, size, e := instr.Get(b); e != want || i != (api.Instr{}) || size != 0 {
		t.Error(b, i, size, e)
	}
	if len(b) == 0 {
		return
	}
	if l, e := instr.Unpack(b); e != want || len(l) != 0 {
		t.Error("unpack", b, l, e)
	}
}

// P4.1: what is wrong with any of the numbers is told, whatever the others are.
func TestGetOfWrongNumbers(t *testing.T) {
	for _, number := range [][]byte{{128, 0}, {129, 0}, {128, 128, 0}, {255, 255, 255, 255, 255, 0}, {129, 128, 128, 128, 128, 32}, {128, 128, 128, 128, 128, 33}, {255, 255, 255, 255, 255, 127}, {128, 128, 128, 128, 128, 128, 1}, {255, 255, 255, 255, 255, 255, 255, 255, 255, 255}} {
		wrong(t, number, api.ErrForm)
		wrong(t, slices.Concat(number, []byte{1, 1}), api.ErrForm)
		wrong(t, slices.Concat([]byte{1}, number), api.ErrForm)
		wrong(t, slices.Concat([]byte{1}, number, []byte{1}), api.ErrForm)
		wrong(t, slices.Concat([]byte{1, 1}, number), api.ErrForm)
		wrong(t, slices.Concat([]byte{1, 1}, number, []byte{1, 1, 1}), api.ErrForm)
	}
}

// P4.1: numbers that are well formed, but of an instruction that may not be, are ErrForm.
func TestGetOfWhatMayNotBe(t *testing.T) {
	count := 0
	for _, op := range ops() {
		for _, a := range telling() {
			for _, b := range telling() {
				i := api.Instr{Op: op, A: a, B: b}
				if mayBe(i) || op < 0 || op > 1<<40 || a < 0 || a > 1<<40 || b < -edge || b > edge {
					continue
				}
				wrong(t, encoded(i), api.ErrForm)
				count++
			}
		}
	}
	if count == 0 {
		t.Error("nothing was asked")
	}
}

// R2: the numbers' errors come one by one, and ahead of what may not be.
func TestGetTellsTheFirstError(t *testing.T) {
	for _, c := range []struct {
		b    []byte
		want api.Errno
	}{
		{[]byte{20}, api.ErrMore},
		{[]byte{99, 0}, api.ErrMore},
		{[]byte{0, 1}, api.ErrMore},
		{[]byte{1, 4}, api.ErrMore},
		{[]byte{1, 4, 128}, api.ErrMore},
		{[]byte{20, 0, 0}, api.ErrForm},
		{[]byte{0, 1, 0}, api.ErrForm},
		{[]byte{0, 0, 1}, api.ErrForm},
		{[]byte{128, 0, 128}, api.ErrForm},
		{[]byte{128, 0}, api.ErrForm},
		{[]byte{1, 128, 0}, api.ErrForm},
	} {
		wrong(t, c.b, c.want)
	}
}

// decoded is read the long way: a number's digits are looked for ahead of its worth.
func decoded(b []byte) (i api.Instr, size int, e api.Errno) {
	var numbers []int
	for len(numbers) < 3 {
		digits := 0
		for size+digits < len(b) && b[size+digits] >= 128 {
			digits++
		}
		if digits >= 6 {
			return api.Instr{}, 0, api.ErrForm
		}
		if size+digits == len(b) {
			return api.Instr{}, 0, api.ErrMore
		}
		if digits > 0 && b[size+digits] == 0 {
			return api.Instr{}, 0, api.ErrForm
		}
		n := 0
		for k := digits; k >= 0; k-- {
			n = n*128 + int(b[size+k]&127)
		}
		if n > 1<<40 {
			return api.Instr{}, 0, api.ErrForm
		}
		numbers = append(numbers, n)
		size += digits + 1
	}
	i = api.Instr{Op: numbers[0], A: numbers[1], B: numbers[2] / 2}
	if numbers[2]%2 != 0 {
		i.B = -i.B - 1
	}
	if !mayBe(i) {
		return api.Instr{}, 0, api.ErrForm
	}
	return i, size, api.OK
}

// eachOf goes through all strings of some bytes, up to a length.
func eachOf(some []byte, most int, see func([]byte)) {
	var grow func([]byte)
	grow = func(b []byte) {
		see(b)
		if len(b) == most {
			return
		}
		for _, c := range some {
			grow(append(slices.Clip(b), c))
		}
	}
	grow(nil)
}

// P4.1, P4.3: all short strings of telling bytes; what is got is put as the same bytes.
func TestGetOfAllShortBytes(t *testing.T) {
	got := 0
	eachOf([]byte{0, 1, 2, 3, 4, 5, 10, 19, 20, 50, 52, 126, 127, 128, 129, 255}, 5, func(b []byte) {
		i, size, e := instr.Get(b)
		want, wantSize, wantE := decoded(b)
		if i != want || size != wantSize || e != wantE {
			t.Fatal(b, i, size, e)
		}
		if e != api.OK {
			return
		}
		got++
		if again, e := instr.Put(i); e != api.OK || !bytes.Equal(again, b[:size]) {
			t.Fatal(b, i, again, e)
		}
	})
	if got == 0 {
		t.Error("nothing was got")
	}
}

// P4.1: all operations, registers and short numbers, as three bytes.
func TestGetOfThreeBytes(t *testing.T) {
	for op := range 256 {
		for a := range 6 {
			for last := range 256 {
				b := []byte{byte(op), byte(a), byte(last)}
				i, size, e := instr.Get(b)
				if want, wantSize, wantE := decoded(b); i != want || size != wantSize || e != wantE {
					t.Fatal(b, i, size, e)
				}
			}
		}
	}
}

// P4.2, P4.3: instructions of all kinds, as many as may be at a time, are bytes one behind the other, and come back.
func TestPackedIsUnpacked(t *testing.T) {
	all := samples()
	for from := range all {
		for _, count := range []int{0, 1, 2, 3, 63, 64} {
			l := all[from:min(from+count, len(all))]
			var want []byte
			for _, i := range l {
				want = append(want, encoded(i)...)
			}
			b, e := instr.Pack(l)
			if e != api.OK || !bytes.Equal(b, want) {
				t.Fatal(l, b, e)
			}
			if m, e := instr.Unpack(b); e != api.OK || !slices.Equal(m, l) {
				t.Fatal(l, m, e)
			}
		}
	}
}

// P4.2: the chapter's examples, one behind the other.
func TestPackOfKnownBytes(t *testing.T) {
	l := []api.Instr{{Op: api.OpSet, A: 1, B: -3}, {Op: api.OpSet, A: 3, B: edge}, {Op: api.OpCall, B: 2}, {}}
	want := []byte{1, 1, 5, 1, 3, 128, 128, 128, 128, 128, 32, 19, 0, 4, 0, 0, 0}
	if b, e := instr.Pack(l); e != api.OK || !bytes.Equal(b, want) {
		t.Error(b, e)
	}
	if m, e := instr.Unpack(want); e != api.OK || !slices.Equal(m, l) {
		t.Error(m, e)
	}
}

// P4.2: 64 instructions may be, 65 and more may not.
func TestHowManyMayBe(t *testing.T) {
	for count, want := range map[int]api.Errno{0: api.OK, 1: api.OK, 63: api.OK, 64: api.OK, 65: api.ErrOver, 66: api.ErrOver, 128: api.ErrOver, 5000: api.ErrOver} {
		for _, i := range []api.Instr{{}, {Op: api.OpSet, A: 3, B: -edge}} {
			l := slices.Repeat([]api.Instr{i}, count)
			all := bytes.Repeat(encoded(i), count)
			b, e := instr.Pack(l)
			if e != want || e == api.OK && !bytes.Equal(b, all) || e != api.OK && len(b) != 0 {
				t.Error("pack", i, count, e)
			}
			m, e := instr.Unpack(all)
			if e != want || e == api.OK && !slices.Equal(m, l) || e != api.OK && len(m) != 0 {
				t.Error("unpack", i, count, e)
			}
		}
	}
}

// P4.2, R4: one instruction that may not be, wherever it stands, is ErrArg; R2: too many of them are ErrOver first.
func TestPackOfWhatMayNotBe(t *testing.T) {
	for _, bad := range []api.Instr{{Op: -1}, {Op: 20}, {A: 1}, {B: -1}, {Op: api.OpSet, A: 4}, {Op: api.OpSet, B: edge + 1}, {Op: api.OpSet, B: -edge - 1}, {Op: api.OpSet, B: math.MinInt}, {Op: api.OpCall, B: 26}, {Op: math.MinInt, A: math.MinInt, B: math.MinInt}, {Op: math.MaxInt, A: math.MaxInt, B: math.MaxInt}} {
		for count, want := range map[int]api.Errno{1: api.ErrArg, 2: api.ErrArg, 64: api.ErrArg, 65: api.ErrOver, 100: api.ErrOver} {
			for at := range count {
				l := make([]api.Instr, count)
				l[at] = bad
				if b, e := instr.Pack(l); e != want || len(b) != 0 {
					t.Fatal(bad, count, at, b, e)
				}
			}
		}
	}
}

// P4.2, R2, R4: the first error of bytes is told, and ahead of ErrOver, also where it stands behind 64 instructions.
func TestUnpackTellsTheFirstError(t *testing.T) {
	for _, count := range []int{0, 1, 2, 63, 64, 65, 200} {
		good := bytes.Repeat([]byte{1, 1, 5}, count)
		for _, c := range []struct {
			behind []byte
			want   api.Errno
		}{
			{[]byte{1}, api.ErrMore},
			{[]byte{1, 1}, api.ErrMore},
			{[]byte{1, 1, 133}, api.ErrMore},
			{[]byte{128, 0}, api.ErrForm},
			{[]byte{20, 0, 0}, api.ErrForm},
			{[]byte{1, 4, 0}, api.ErrForm},
			{[]byte{1, 4, 0, 1}, api.ErrForm},
			{[]byte{0, 0, 2, 128}, api.ErrForm},
			{[]byte{1, 1, 5, 20}, api.ErrMore},
		} {
			b := slices.Concat(good, c.behind)
			if l, e := instr.Unpack(b); e != c.want || len(l) != 0 {
				t.Error(count, c.behind, l, e)
			}
			if c.want == api.ErrForm {
				b = slices.Concat(b, good)
				if l, e := instr.Unpack(b); e != c.want || len(l) != 0 {
					t.Error(count, c.behind, l, e)
				}
			}
		}
	}
}

// P4.2, P4.3: all short strings of few bytes are unpacked as they are got, one by one; what is unpacked is packed as the same bytes.
func TestUnpackOfAllShortBytes(t *testing.T) {
	eachOf([]byte{0, 1, 4, 19, 128, 129}, 7, func(b []byte) {
		var want []api.Instr
		wantE := api.OK
		for rest := b; len(rest) > 0 && wantE == api.OK; {
			i, size, e := decoded(rest)
			want, wantE, rest = append(want, i), e, rest[size:]
		}
		if wantE != api.OK {
			want = nil
		}
		l, e := instr.Unpack(b)
		if e != wantE || !slices.Equal(l, want) {
			t.Fatal(b, l, e)
		}
		if e != api.OK {
			return
		}
		if again, e := instr.Pack(l); e != api.OK || !bytes.Equal(again, b) {
			t.Fatal(b, again, e)
		}
	})
}

// R6: no instructions are no bytes, nil or empty.
func TestNothingIsNothing(t *testing.T) {
	for _, l := range [][]api.Instr{nil, {}} {
		if b, e := instr.Pack(l); len(b) != 0 || e != api.OK {
			t.Error(b, e)
		}
	}
	for _, b := range [][]byte{nil, {}} {
		if l, e := instr.Unpack(b); len(l) != 0 || e != api.OK {
			t.Error(l, e)
		}
	}
}

// R3: what is handed in stays, also behind its length, and what is answered shares nothing with it.
func TestArgumentsStay(t *testing.T) {
	l := []api.Instr{{Op: api.OpSet, A: 1, B: -300}, {Op: api.OpCall, B: 2}, {Op: 99}, {Op: api.OpJump, B: 7}}
	b := []byte{1, 1, 215, 4, 19, 0, 4, 99, 99, 99}
	given, taken := slices.Clone(l), slices.Clone(b)
	packed, _ := instr.Pack(l[:2])
	single, _ := instr.Put(l[0])
	again, _ := instr.Pack(l[:2])
	unpacked, _ := instr.Unpack(b[:7])
	once, _ := instr.Unpack(b[:7])
	instr.Get(b[:4])
	instr.Get(b)
	instr.Pack(l)
	instr.Unpack(b)
	if !slices.Equal(l, given) || !bytes.Equal(b, taken) {
		t.Fatal("an argument was changed", l, b)
	}
	clear(l)
	clear(b)
	clear(again)
	clear(once)
	_ = append(again, 1, 2, 3, 4)
	_ = append(once, l...)
	if !bytes.Equal(packed, taken[:7]) || !bytes.Equal(single, taken[:4]) || !slices.Equal(unpacked, given[:2]) {
		t.Error("an answer was changed", packed, single, unpacked)
	}
	packed[0], single[0], unpacked[0] = 9, 9, api.Instr{Op: 9}
	if b[0] != 0 || l[0] != (api.Instr{}) || again[0] != 0 || once[0] != (api.Instr{}) {
		t.Error("an answer is shared", l, b, again, once)
	}
}

// R5: what is asked again is answered again, whatever was asked in between.
func TestAnswersHangOnArgumentsAlone(t *testing.T) {
	for _, op := range ops() {
		for _, last := range telling() {
			i := api.Instr{Op: op, A: last & 3, B: last}
			may := instr.May(i)
			b, e := instr.Put(i)
			got, size, f := instr.Get(b)
			all, g := instr.Unpack(b)
			instr.May(api.Instr{Op: -5})
			instr.Put(api.Instr{Op: api.OpSet, A: 2, B: edge})
			instr.Get([]byte{20, 0, 0})
			instr.Pack(make([]api.Instr, 65))
			instr.Unpack([]byte{1, 1, 5, 1})
			c, h := instr.Put(i)
			if instr.May(i) != may || !bytes.Equal(b, c) || h != e {
				t.Fatal(i)
			}
			gotAgain, sizeAgain, fAgain := instr.Get(b)
			allAgain, gAgain := instr.Unpack(b)
			if gotAgain != got || sizeAgain != size || fAgain != f || !slices.Equal(allAgain, all) || gAgain != g {
				t.Fatal(i, b)
			}
		}
	}
}
