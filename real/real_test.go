package real_test

import (
	"math"
	"math/big"
	"testing"

	"quarterdeck/real"
)

const (
	sign     = math.MinInt // the bit that a word has for its sign, as a real number has it
	one      = 0x3ff << 52
	infinity = 0x7ff << 52
	greatest = infinity - 1
	none     = 0x7ff8 << 48
	normal   = 1 << 52 // the least number that has all its bits
	bound    = 1 << 53
)

// noNumbers are bits that are no number: of both signs, and of both kinds of it.
func noNumbers() []int {
	l := []int{none, infinity + 1, none - 1, none + 1, none + 7, math.MaxInt}
	for bit := range 52 {
		l = append(l, infinity+1<<bit)
	}
	for _, x := range l {
		l = append(l, sign+x)
	}
	return l
}

// numbers are telling bits of both signs: around the least, the greatest, those of a half and of 1, and of 2^51 to 2^64, and the infinities.
func numbers() []int {
	l := []int{infinity}
	for _, power := range []int{0, 1, 2, 3, 52, 53, 1021, 1022, 1023, 1024, 1025, 1073, 1074, 1075, 1076, 1077, 1085, 1086, 1087, 2044, 2045, 2046} {
		for _, rest := range []int{0, 1, 2, 3, 4, 5, 6, 7, 1<<51 - 1, 1 << 51, 1<<51 + 1, 1<<51 + 3, 3 << 50, 1<<52 - 4, 1<<52 - 3, 1<<52 - 2, 1<<52 - 1} {
			l = append(l, power<<52+rest)
		}
	}
	for _, x := range l {
		l = append(l, sign+x)
	}
	return l
}

// wholes are whole numbers around 0, the powers of 2 and both bounds, and far beyond these.
func wholes() []int {
	l := []int{0, math.MinInt, math.MinInt + 1, math.MaxInt, 300, 12345678901}
	for bit := range 63 {
		for _, n := range []int{1<<bit - 1, 1 << bit, 1<<bit + 1, 3 << bit >> 1} {
			l = append(l, n, -n)
		}
	}
	return l
}

// exact is a number as how many of the least ones it is; the infinities are as if there were a number above the greatest.
func exact(x int) *big.Int {
	power, rest := x>>52&0x7ff, x&(1<<52-1)
	if power > 0 {
		rest += 1 << 52
	}
	n := new(big.Int).Lsh(big.NewInt(int64(rest)), uint(max(power, 1)-1))
	if x < 0 {
		n.Neg(n)
	}
	return n
}

// inexact undoes exact, for a number that has no more than 53 bits.
func inexact(n *big.Int, below0 bool) int {
	size := new(big.Int).Abs(n)
	x := 0
	if power := size.BitLen() - 52; power >= 0x7ff {
		x = infinity
	} else if power > 0 {
		x = power<<52 + int(size.Rsh(size, uint(power-1)).Int64()) - 1<<52
	} else {
		x = int(size.Int64())
	}
	if below0 {
		x += sign
	}
	return x
}

// wantHalf halves the least ones that a number is: between two of them it goes to the even one.
func wantHalf(x int) int {
	if x&math.MaxInt == infinity {
		return x
	}
	n := exact(x & math.MaxInt)
	odd := n.Bit(0) == 1
	n.Rsh(n, 1)
	if odd && n.Bit(0) == 1 {
		n.Add(n, big.NewInt(1))
	}
	return inexact(n, x < 0)
}

func wantTwice(x int) int {
	return inexact(new(big.Int).Lsh(exact(x), 1), x < 0)
}

func wantWhole(x int) int {
	n := new(big.Int).Quo(exact(x), new(big.Int).Lsh(big.NewInt(1), 1074))
	if n.CmpAbs(big.NewInt(bound)) > 0 {
		return n.Sign() * bound
	}
	return int(n.Int64())
}

// held says an answer that is not as the document asks.
func held(t *testing.T, name string, x, got, want int) {
	t.Helper()
	if got != want {
		t.Errorf("%s(%#x) = %#x, want %#x", name, uint64(x), uint64(got), uint64(want))
	}
}

// P2.1: whole numbers as bits.
func TestOf(t *testing.T) {
	for _, c := range []struct{ n, want int }{
		{0, 0}, {1, one}, {-1, sign + one}, {2, 0x400 << 52}, {3, 0x4008 << 48}, {-3, sign + 0x4008<<48},
		{300, 0x4072c << 44}, {1<<52 - 1, 0x4330<<48 - 2}, {1 << 52, 0x433 << 52}, {1<<52 + 1, 0x433<<52 + 1},
	} {
		held(t, "Of", c.n, real.Of(c.n), c.want)
	}
}

// P2.1: what lies beyond -2^53 and 2^53 is as these.
func TestOfIsBounded(t *testing.T) {
	const top = 0x434 << 52
	held(t, "Of", bound-1, real.Of(bound-1), top-1)
	held(t, "Of", 1-bound, real.Of(1-bound), sign+top-1)
	for _, n := range []int{bound, bound + 1, bound + 2, bound + 3, 1 << 54, 1 << 62, math.MaxInt - 1, math.MaxInt} {
		held(t, "Of", n, real.Of(n), top)
		held(t, "Of", -n, real.Of(-n), sign+top)
	}
	held(t, "Of", math.MinInt, real.Of(math.MinInt), sign+top)
}

// P2.1: what a number has behind the point is left out, on both sides of 0.
func TestWholeGoesTowards0(t *testing.T) {
	for _, c := range []struct{ x, want int }{
		{0, 0}, {1, 0}, {normal, 0}, {0x3fe << 52, 0}, {one - 1, 0}, {one, 1}, {one + 1, 1},
		{0x4000<<48 - 1, 1}, {0x4000 << 48, 2}, {0x4004 << 48, 2}, {0x4008 << 48, 3}, {0x400c << 48, 3},
		{0x432<<52 + 1, 1 << 51}, {0x432<<52 + 2, 1<<51 + 1}, {0x433<<52 + 1, 1<<52 + 1},
	} {
		held(t, "Whole", c.x, real.Whole(c.x), c.want)
		held(t, "Whole", sign+c.x, real.Whole(sign+c.x), -c.want)
	}
}

// P2.1: -2^53 and 2^53 of what lies beyond them, the infinities too.
func TestWholeIsBounded(t *testing.T) {
	const top = 0x434 << 52
	held(t, "Whole", top-1, real.Whole(top-1), bound-1)
	held(t, "Whole", sign+top-1, real.Whole(sign+top-1), 1-bound)
	// 2^63, which no int holds, lies at 0x43e.
	for _, x := range []int{top, top + 1, top + 2, 0x435 << 52, 0x43e<<52 - 1, 0x43e << 52, 0x43e<<52 + 1, 0x43f << 52, 0x440 << 52, greatest, infinity} {
		held(t, "Whole", x, real.Whole(x), bound)
		held(t, "Whole", sign+x, real.Whole(sign+x), -bound)
	}
}

// P2.1: 0 of no number, whatever its bits.
func TestWholeOfNoNumber(t *testing.T) {
	for _, x := range noNumbers() {
		held(t, "Whole", x, real.Whole(x), 0)
	}
}

// P2.1: Whole is as numbers without bound have it.
func TestWholeAsUnbounded(t *testing.T) {
	for _, x := range numbers() {
		held(t, "Whole", x, real.Whole(x), wantWhole(x))
	}
}

// P2.2: halves, and of the least numbers the even one of two.
func TestHalf(t *testing.T) {
	for _, c := range []struct{ x, want int }{
		{one, one - 1<<52}, {0x4008 << 48, 0x3ff8 << 48}, {one + 1, one + 1 - 1<<52},
		{0, 0}, {1, 0}, {2, 1}, {3, 2}, {4, 2}, {5, 2}, {6, 3}, {7, 4}, {9, 4}, {11, 6},
		{normal - 1, normal / 2}, {normal - 2, normal/2 - 1}, {normal - 3, normal/2 - 2},
		{normal, normal / 2}, {normal + 1, normal / 2}, {normal + 2, normal/2 + 1}, {normal + 3, normal/2 + 2},
		{2*normal - 1, normal}, {2*normal - 2, normal - 1}, {2*normal - 3, normal - 2},
		{2 * normal, normal}, {2*normal + 1, normal + 1},
		{greatest, greatest - 1<<52}, {infinity, infinity},
	} {
		held(t, "Half", c.x, real.Half(c.x), c.want)
		held(t, "Half", sign+c.x, real.Half(sign+c.x), sign+c.want)
	}
}

// P2.2: doubles, and infinity beyond the greatest one.
func TestTwice(t *testing.T) {
	for _, c := range []struct{ x, want int }{
		{one, one + 1<<52}, {0x4008 << 48, 0x4018 << 48}, {one + 1, one + 1 + 1<<52},
		{0, 0}, {1, 2}, {3, 6}, {normal/2 - 1, normal - 2}, {normal / 2, normal}, {normal/2 + 1, normal + 2},
		{normal - 1, 2*normal - 2}, {normal, 2 * normal}, {normal + 1, 2*normal + 1},
		{0x7fe<<52 - 1, greatest}, {0x7fe << 52, infinity}, {0x7fe<<52 + 1, infinity}, {greatest, infinity}, {infinity, infinity},
	} {
		held(t, "Twice", c.x, real.Twice(c.x), c.want)
		held(t, "Twice", sign+c.x, real.Twice(sign+c.x), sign+c.want)
	}
}

// P2.2: Half and Twice are as numbers without bound have it.
func TestHalfAndTwiceAsUnbounded(t *testing.T) {
	for _, x := range numbers() {
		held(t, "Half", x, real.Half(x), wantHalf(x))
		held(t, "Twice", x, real.Twice(x), wantTwice(x))
	}
}

// P2.2: the other sign and nothing else, also of the noughts and of the infinities.
func TestFlip(t *testing.T) {
	held(t, "Flip", 0, real.Flip(0), sign)
	held(t, "Flip", sign, real.Flip(sign), 0)
	held(t, "Flip", one, real.Flip(one), sign+one)
	held(t, "Flip", infinity, real.Flip(infinity), sign+infinity)
	held(t, "Flip", sign+infinity, real.Flip(sign+infinity), infinity)
	for _, x := range numbers() {
		held(t, "Flip", x, real.Flip(x), x^sign)
	}
}

// P2.2: no number is answered by its one bits, whatever it was.
func TestNoNumberStaysNone(t *testing.T) {
	for _, x := range noNumbers() {
		held(t, "Half", x, real.Half(x), none)
		held(t, "Twice", x, real.Twice(x), none)
		held(t, "Flip", x, real.Flip(x), none)
	}
}

// P2.3: less, the same and more.
func TestBelow(t *testing.T) {
	for _, c := range []struct {
		x, y int
		want bool
	}{
		{one, one + 1<<52, true}, {one, one, false}, {one + 1, one, false}, {one - 1, one, true},
		{sign + one, one, true}, {one, sign + one, false}, {sign + one + 1, sign + one, true}, {sign + one, sign + one + 1, false},
		{0, 0, false}, {0, sign, false}, {sign, 0, false}, {sign, sign, false},
		{0, 1, true}, {sign, 1, true}, {1, 0, false}, {sign + 1, 0, true}, {sign + 1, sign, true}, {0, sign + 1, false},
		{sign + 2, sign + 1, true}, {sign + 1, 1, true}, {normal - 1, normal, true},
		{greatest, infinity, true}, {infinity, greatest, false}, {infinity, infinity, false},
		{sign + infinity, sign + greatest, true}, {sign + infinity, infinity, true}, {infinity, sign + infinity, false}, {sign + infinity, sign + infinity, false},
	} {
		if got := real.Below(c.x, c.y); got != c.want {
			t.Errorf("Below(%#x, %#x) = %t", uint64(c.x), uint64(c.y), got)
		}
	}
}

// P2.3: every two numbers are as numbers without bound have it.
func TestBelowAsUnbounded(t *testing.T) {
	l := numbers()
	sizes := make([]*big.Int, len(l))
	for i, x := range l {
		sizes[i] = exact(x)
	}
	for i, x := range l {
		for k, y := range l {
			if got, want := real.Below(x, y), sizes[i].Cmp(sizes[k]) < 0; got != want {
				t.Fatalf("Below(%#x, %#x) = %t", uint64(x), uint64(y), got)
			}
		}
	}
}

// P2.3: no number is neither less than something, nor is something less than it.
func TestBelowOfNoNumber(t *testing.T) {
	for _, x := range noNumbers() {
		for _, y := range append(numbers(), none, sign+none, x) {
			if real.Below(x, y) || real.Below(y, x) {
				t.Fatalf("%#x and %#x: one is below the other one", uint64(x), uint64(y))
			}
		}
	}
}

// P2.4: Twice of Half is what it was, but where a half lies between two of the least numbers.
func TestTwiceOfHalf(t *testing.T) {
	for _, x := range numbers() {
		if between := x&math.MaxInt < 2*normal && x&1 == 1; !between {
			held(t, "Twice of Half", x, real.Twice(real.Half(x)), x)
		}
	}
	held(t, "Twice of Half", 1, real.Twice(real.Half(1)), 0)
	held(t, "Twice of Half", 3, real.Twice(real.Half(3)), 4)
}

// P2.4: Half of Twice is what it was, but of the greatest numbers.
func TestHalfOfTwice(t *testing.T) {
	for _, x := range numbers() {
		if size := x & math.MaxInt; size < 0x7fe<<52 || size == infinity {
			held(t, "Half of Twice", x, real.Half(real.Twice(x)), x)
		}
	}
	held(t, "Half of Twice", greatest, real.Half(real.Twice(greatest)), infinity)
}

// P2.4: Flip twice is what it was.
func TestFlipOfFlip(t *testing.T) {
	for _, x := range append(numbers(), none) {
		held(t, "Flip of Flip", x, real.Flip(real.Flip(x)), x)
	}
}

// P2.4: Of and Whole undo each other, within the bounds.
func TestOfAndWhole(t *testing.T) {
	for _, n := range wholes() {
		held(t, "Whole of Of", n, real.Whole(real.Of(n)), min(max(n, -bound), bound))
	}
	for _, n := range wholes() {
		x := real.Of(n)
		held(t, "Of of Whole", x, real.Of(real.Whole(x)), x)
	}
	for _, x := range noNumbers() {
		held(t, "Of of Whole", x, real.Of(real.Whole(x)), 0)
	}
}

// P1, R1, R5: all calls answer the same a second time, of any bits, in whatever order.
func TestNothingIsKept(t *testing.T) {
	l := append(append(numbers(), noNumbers()...), wholes()...)
	all := func(x int) [5]int {
		return [5]int{real.Of(x), real.Whole(x), real.Half(x), real.Twice(x), real.Flip(x)}
	}
	first := make([][5]int, len(l))
	for i, x := range l {
		first[i] = all(x)
	}
	for i := len(l) - 1; i >= 0; i-- {
		if again := all(l[i]); again != first[i] {
			t.Errorf("%#x: first %x, then %x", uint64(l[i]), first[i], again)
		}
	}
}
