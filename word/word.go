// Package word is layer 1: see shared/doc/01-word.md.
package word

import "quarterdeck/api"

const (
	base      = 128
	digitBits = 7 // a digit to the base 128
	maxDigits = 6 // as many as MaxTick has
)

// Div is a number divided by another one, towards 0; a fault, if that is 0.
func Div(a, b int) (quotient, fault int) {
	// The language's own division panics by 0, and by nothing else: -2^63 by -1 wraps around.
	defer func() {
		if recover() != nil {
			quotient, fault = 0, api.NumericError
		}
	}()
	return a / b, api.NoFault
}

// Put is a number as bytes, Get the number that bytes begin with, and how many it has.
func Put(n int) ([]byte, api.Errno) {
	if !isTables(n) {
		return nil, api.ErrArg
	}
	return appendDigits(nil, n), api.OK
}

func Get(b []byte) (n, size int, e api.Errno) {
	defer func() {
		if wrong, is := recover().(api.Errno); is {
			n, size, e = 0, 0, wrong
		}
	}()
	n, size = readDigits(b)
	return n, size, api.OK
}

// PutAll and GetAll are the same of numbers, one behind the other.
func PutAll(l []int) ([]byte, api.Errno) {
	var all []byte
	for _, n := range l {
		if !isTables(n) {
			return nil, api.ErrArg
		}
		all = appendDigits(all, n)
	}
	return all, api.OK
}

func GetAll(b []byte) ([]int, api.Errno) {
	var all []int
	for len(b) > 0 {
		n, size, e := Get(b)
		if e != api.OK {
			return nil, e
		}
		all = append(all, n)
		b = b[size:]
	}
	return all, api.OK
}

// isTables tells whether a number is a table's.
func isTables(n int) bool { return n >= 0 && n <= api.MaxTick }

// appendDigits takes a table's number: one below 0 would not come to an end.
func appendDigits(b []byte, n int) []byte {
	for n >= base {
		b = append(b, byte(n%base+base))
		n /= base
	}
	return append(b, byte(n))
}

// readDigits panics with the Errno of what is wrong, which Get recovers.
func readDigits(b []byte) (n, size int) {
	for i, c := range b {
		digit := int(c % base)
		n += digit << (digitBits * i)
		if c < base {
			// A nought on top is a digit more than there need be.
			if digit == 0 && i > 0 || !isTables(n) {
				panic(api.ErrForm)
			}
			return n, i + 1
		}
		// A digit more must follow, which is one too many: wrong already, whether there are more bytes or not.
		if i+1 == maxDigits {
			panic(api.ErrForm)
		}
	}
	panic(api.ErrMore)
}
