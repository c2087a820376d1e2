package word_test

import (
	"bytes"
	"math"
	"math/big"
	"slices"
	"testing"

	"quarterdeck/api"
	"quarterdeck/word"
)

// edges are numbers at which a table's number gets a digit more, and those just beside the bounds of one.
func edges() []int {
	l := []int{0, 1, 2, 300, api.MaxTick - 1, api.MaxTick}
	for bits := 7; bits < 40; bits += 7 {
		l = append(l, 1<<bits-1, 1<<bits, 1<<bits+1)
	}
	return l
}

// notTables are numbers that are no table's.
func notTables() []int {
	return []int{-1, -2, -128, -api.MaxTick, math.MinInt, api.MaxTick + 1, 1 << 41, 1 << 42, math.MaxInt}
}

// eachBytes goes through all bytes up to a length that are made of a few telling ones.
func eachBytes(longest int, see func([]byte)) {
	alphabet := []byte{0, 1, 31, 32, 33, 127, 128, 129, 255}
	b := make([]byte, 0, longest)
	var grow func()
	grow = func() {
		see(b)
		if len(b) == longest {
			return
		}
		for _, c := range alphabet {
			b = append(b, c)
			grow()
			b = b[:len(b)-1]
		}
	}
	grow()
}

// wantGet is what the document asks of Get, said from the top digit down, without bound.
func wantGet(b []byte) (int, int, api.Errno) {
	last := slices.IndexFunc(b, func(c byte) bool { return c < 128 })
	if last < 0 && len(b) < 6 {
		return 0, 0, api.ErrMore
	}
	if last < 0 || last >= 6 || last > 0 && b[last] == 0 {
		return 0, 0, api.ErrForm
	}
	n := new(big.Int)
	for i := last; i >= 0; i-- {
		n.Mul(n, big.NewInt(128))
		n.Add(n, big.NewInt(int64(b[i]&127)))
	}
	if n.Cmp(big.NewInt(1<<40)) > 0 {
		return 0, 0, api.ErrForm
	}
	return int(n.Int64()), last + 1, api.OK
}

// P1.1: ordinary divisions go towards 0, with NoFault.
func TestDivGoesTowards0(t *testing.T) {
	for _, c := range []struct{ a, b, want int }{
		{7, 2, 3}, {-7, 2, -3}, {7, -2, -3}, {-7, -2, 3},
		{6, 3, 2}, {-6, 3, -2}, {1, 2, 0}, {-1, 2, 0}, {0, 9, 0}, {0, -9, 0},
		{5, 1, 5}, {5, -1, -5}, {math.MaxInt, -1, -math.MaxInt}, {math.MinInt, 1, math.MinInt},
		{math.MinInt, 2, -1 << 62}, {math.MinInt, math.MinInt, 1}, {math.MaxInt, math.MinInt, 0},
		{math.MinInt, math.MaxInt, -1}, {math.MinInt + 1, -1, math.MaxInt},
	} {
		if q, f := word.Div(c.a, c.b); q != c.want || f != api.NoFault {
			t.Errorf("Div(%d, %d) = %d, %d, want %d, NoFault", c.a, c.b, q, f, c.want)
		}
	}
}

// P1.1: the one quotient that is no word wraps around.
func TestDivWrapsAround(t *testing.T) {
	if q, f := word.Div(math.MinInt, -1); q != math.MinInt || f != api.NoFault {
		t.Errorf("Div(-2^63, -1) = %d, %d", q, f)
	}
}

// P1.1, P1: a division by 0 is a fault, not a panic, and its quotient is nought.
func TestDivBy0(t *testing.T) {
	for _, a := range []int{0, 1, -1, 5, math.MaxInt, math.MinInt} {
		if q, f := word.Div(a, 0); q != 0 || f != api.NumericError {
			t.Errorf("Div(%d, 0) = %d, %d, want 0, NumericError", a, q, f)
		}
	}
}

// R5: a fault leaves nothing behind for the division that follows.
func TestDivAfterFault(t *testing.T) {
	word.Div(8, 0)
	if q, f := word.Div(8, 2); q != 4 || f != api.NoFault {
		t.Errorf("Div(8, 2) behind a fault = %d, %d", q, f)
	}
}

// P1.1: the quotient is the one of numbers without bound, as a word.
func TestDivAsUnbounded(t *testing.T) {
	l := []int{math.MinInt, math.MinInt + 1, -1 << 53, -300, -3, -2, -1, 1, 2, 3, 300, 1 << 53, math.MaxInt - 1, math.MaxInt}
	for _, a := range append(l, 0) {
		for _, b := range l {
			want := new(big.Int).Quo(big.NewInt(int64(a)), big.NewInt(int64(b)))
			q, f := word.Div(a, b)
			if f != api.NoFault || uint64(q) != new(big.Int).And(want, new(big.Int).SetUint64(math.MaxUint64)).Uint64() {
				t.Errorf("Div(%d, %d) = %d, %d, want %s", a, b, q, f, want)
			}
		}
	}
}

// P1.2: the lowest digit first, 128 added to each but the last.
func TestPutBytes(t *testing.T) {
	for _, c := range []struct {
		n    int
		want []byte
	}{
		{0, []byte{0}}, {1, []byte{1}}, {127, []byte{127}},
		{128, []byte{128, 1}}, {300, []byte{172, 2}}, {1<<14 - 1, []byte{255, 127}},
		{1 << 14, []byte{128, 128, 1}}, {1 << 35, []byte{128, 128, 128, 128, 128, 1}},
		{1<<40 - 1, []byte{255, 255, 255, 255, 255, 31}}, {1 << 40, []byte{128, 128, 128, 128, 128, 32}},
	} {
		if b, e := word.Put(c.n); e != api.OK || !bytes.Equal(b, c.want) {
			t.Errorf("Put(%d) = %v, %d, want %v", c.n, b, e, c.want)
		}
	}
}

// P1.2, R4: what is no table's number has no bytes.
func TestPutRefuses(t *testing.T) {
	for _, n := range notTables() {
		if b, e := word.Put(n); e != api.ErrArg || len(b) != 0 {
			t.Errorf("Put(%d) = %v, %d, want ErrArg", n, b, e)
		}
	}
}

// P1.2: as few digits as there may be: one for each 7 bits, but one at least.
func TestPutIsShort(t *testing.T) {
	for _, n := range edges() {
		want := max(1, (big.NewInt(int64(n)).BitLen()+6)/7)
		if b, e := word.Put(n); e != api.OK || len(b) != want {
			t.Errorf("Put(%d) = %v, %d, want %d bytes", n, b, e, want)
		}
	}
}

// P1.2: Get's numbers, sizes and errors at the edges that the chapter names.
func TestGetEdges(t *testing.T) {
	for _, c := range []struct {
		b       []byte
		n, size int
		e       api.Errno
	}{
		{[]byte{0}, 0, 1, api.OK},
		{[]byte{0, 0}, 0, 1, api.OK},
		{[]byte{5, 200}, 5, 1, api.OK},
		{[]byte{172, 2}, 300, 2, api.OK},
		{[]byte{172, 2, 128}, 300, 2, api.OK},
		{[]byte{255, 255, 255, 255, 255, 31}, 1<<40 - 1, 6, api.OK},
		{[]byte{128, 128, 128, 128, 128, 32, 0}, 1 << 40, 6, api.OK},
		// The bytes end ahead of a last digit.
		{nil, 0, 0, api.ErrMore},
		{[]byte{}, 0, 0, api.ErrMore},
		{[]byte{128}, 0, 0, api.ErrMore},
		{[]byte{172}, 0, 0, api.ErrMore},
		{[]byte{255, 255, 255, 255, 255}, 0, 0, api.ErrMore},
		// A last digit of nought.
		{[]byte{128, 0}, 0, 0, api.ErrForm},
		{[]byte{129, 0, 5}, 0, 0, api.ErrForm},
		{[]byte{129, 128, 128, 128, 128, 0}, 0, 0, api.ErrForm},
		// More than 6 digits, the bytes of which may end ahead of the last one.
		{[]byte{128, 128, 128, 128, 128, 128}, 0, 0, api.ErrForm},
		{[]byte{128, 128, 128, 128, 128, 128, 1}, 0, 0, api.ErrForm},
		{[]byte{128, 128, 128, 128, 128, 160, 0}, 0, 0, api.ErrForm},
		{[]byte{255, 255, 255, 255, 255, 255, 255, 255, 255, 255}, 0, 0, api.ErrForm},
		// 6 digits that are no table's number.
		{[]byte{129, 128, 128, 128, 128, 32}, 0, 0, api.ErrForm},
		{[]byte{128, 128, 128, 128, 128, 33}, 0, 0, api.ErrForm},
		{[]byte{255, 255, 255, 255, 255, 127}, 0, 0, api.ErrForm},
	} {
		if n, size, e := word.Get(c.b); n != c.n || size != c.size || e != c.e {
			t.Errorf("Get(%v) = %d, %d, %d, want %d, %d, %d", c.b, n, size, e, c.n, c.size, c.e)
		}
	}
}

// P1.2, P1, R4: Get is as the document has it, of all bytes made of telling ones.
func TestGetOfAllBytes(t *testing.T) {
	longest := 7
	if testing.Short() {
		longest = 5
	}
	eachBytes(longest, func(b []byte) {
		n, size, e := word.Get(b)
		if m, k, want := wantGet(b); n != m || size != k || e != want {
			t.Fatalf("Get(%v) = %d, %d, %d, want %d, %d, %d", b, n, size, e, m, k, want)
		}
	})
}

// P1.3: the bytes of all, one behind the other.
func TestPutAll(t *testing.T) {
	for _, l := range [][]int{nil, {}, {0}, {0, 0}, {300, 0, 1 << 40}, {5, 127, 128, 300}, edges()} {
		var want []byte
		for _, n := range l {
			b, _ := word.Put(n)
			want = append(want, b...)
		}
		if b, e := word.PutAll(l); e != api.OK || !bytes.Equal(b, want) {
			t.Errorf("PutAll(%v) = %v, %d, want %v", l, b, e, want)
		}
	}
	if b, e := word.PutAll([]int{300, 0, 7}); e != api.OK || !bytes.Equal(b, []byte{172, 2, 0, 7}) {
		t.Errorf("PutAll(300, 0, 7) = %v, %d", b, e)
	}
}

// P1.3, R4: one that is no table's number spoils all, wherever it stands.
func TestPutAllRefuses(t *testing.T) {
	for _, n := range notTables() {
		for _, l := range [][]int{{n}, {n, 1}, {1, n}, {1, n, 300}, {n, n}} {
			if b, e := word.PutAll(l); e != api.ErrArg || len(b) != 0 {
				t.Errorf("PutAll(%v) = %v, %d, want ErrArg", l, b, e)
			}
		}
	}
}

// P1.3, R2, R4: GetAll's numbers, and the first error of bytes that have several.
func TestGetAllEdges(t *testing.T) {
	for _, c := range []struct {
		b    []byte
		want []int
		e    api.Errno
	}{
		{nil, nil, api.OK},
		{[]byte{}, nil, api.OK},
		{[]byte{0}, []int{0}, api.OK},
		{[]byte{0, 0}, []int{0, 0}, api.OK},
		{[]byte{5, 172, 2, 0}, []int{5, 300, 0}, api.OK},
		{[]byte{128, 128, 128, 128, 128, 32, 128, 1}, []int{1 << 40, 128}, api.OK},
		{[]byte{172}, nil, api.ErrMore},
		{[]byte{5, 172}, nil, api.ErrMore},
		{[]byte{5, 128, 0, 7}, nil, api.ErrForm},
		{[]byte{128, 0, 172}, nil, api.ErrForm},
		{[]byte{5, 128, 128, 128, 128, 128, 128}, nil, api.ErrForm},
		{[]byte{5, 129, 128, 128, 128, 128, 32}, nil, api.ErrForm},
		{[]byte{5, 128, 128, 128, 128, 128}, nil, api.ErrMore},
	} {
		if l, e := word.GetAll(c.b); e != c.e || !slices.Equal(l, c.want) {
			t.Errorf("GetAll(%v) = %v, %d, want %v, %d", c.b, l, e, c.want, c.e)
		}
	}
}

// P1.4: what was put is got back, also ahead of other bytes.
func TestPutIsGotBack(t *testing.T) {
	for _, n := range edges() {
		b, _ := word.Put(n)
		for _, rest := range [][]byte{nil, {0}, {1}, {128}, {255, 255, 255, 255, 255, 255}, b} {
			if m, size, e := word.Get(slices.Concat(b, rest)); m != n || size != len(b) || e != api.OK {
				t.Errorf("Get(Put(%d), %v) = %d, %d, %d", n, rest, m, size, e)
			}
		}
	}
	for _, l := range [][]int{nil, {0}, {1 << 40, 0, 0, 1 << 40}, edges()} {
		b, _ := word.PutAll(l)
		if m, e := word.GetAll(b); e != api.OK || !slices.Equal(m, l) {
			t.Errorf("GetAll(PutAll(%v)) = %v, %d", l, m, e)
		}
	}
}

// P1.4: what is got is put as the same bytes.
func TestGotIsPutBack(t *testing.T) {
	eachBytes(5, func(b []byte) {
		if n, size, e := word.Get(b); e == api.OK {
			if back, e := word.Put(n); e != api.OK || !bytes.Equal(back, b[:size]) {
				t.Fatalf("Put(Get(%v)) = %v, %d", b, back, e)
			}
		}
		if l, e := word.GetAll(b); e == api.OK {
			if back, e := word.PutAll(l); e != api.OK || !bytes.Equal(back, b) {
				t.Fatalf("PutAll(GetAll(%v)) = %v, %d", b, back, e)
			}
		}
	})
}

// R3: what is handed in stays as it was, also what lies behind its end.
func TestArgumentsStay(t *testing.T) {
	b := []byte{5, 172, 2, 9, 9}
	word.Get(b[:3])
	word.GetAll(b[:3])
	word.GetAll(b[:2])
	if !bytes.Equal(b, []byte{5, 172, 2, 9, 9}) {
		t.Errorf("bytes were changed: %v", b)
	}
	l := []int{300, 1, 7, 7}
	word.PutAll(l[:2])
	if !slices.Equal(l, []int{300, 1, 7, 7}) {
		t.Errorf("numbers were changed: %v", l)
	}
}

// R3, R5: what is answered is the caller's own: a change to it changes no later answer.
func TestAnswersAreOwn(t *testing.T) {
	one, _ := word.Put(300)
	all, _ := word.PutAll([]int{300, 0})
	numbers, _ := word.GetAll([]byte{172, 2, 0})
	clear(one)
	clear(all)
	clear(numbers)
	if b, e := word.Put(300); e != api.OK || !bytes.Equal(b, []byte{172, 2}) {
		t.Errorf("Put(300) behind a change = %v, %d", b, e)
	}
	if b, e := word.PutAll([]int{300, 0}); e != api.OK || !bytes.Equal(b, []byte{172, 2, 0}) {
		t.Errorf("PutAll(300, 0) behind a change = %v, %d", b, e)
	}
	if l, e := word.GetAll([]byte{172, 2, 0}); e != api.OK || !slices.Equal(l, []int{300, 0}) {
		t.Errorf("GetAll(172 2 0) behind a change = %v, %d", l, e)
	}
}
