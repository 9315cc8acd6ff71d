package words

import (
	"dapple/api"
)

// Add is the sum of two numbers.
func Add(a, b api.Word) (api.Word, api.Errno) {
	m, n, e := numbers(a, b)
	if e != api.OK {
		return 0, e
	}
	return Int(m + n)
}

// Sub is the difference of two numbers.
func Sub(a, b api.Word) (api.Word, api.Errno) {
	m, n, e := numbers(a, b)
	if e != api.OK {
		return 0, e
	}
	return Int(m - n)
}

// Mul is the product of two numbers.
func Mul(a, b api.Word) (api.Word, api.Errno) {
	m, n, e := numbers(a, b)
	if e != api.OK {
		return 0, e
	}
	p := m * n
	// The product of two numbers of 60 bits may wrap round 64, even back to
	// where numbers are: one that has wrapped is too far off to give n back.
	if m != 0 && p/m != n {
		return 0, api.ErrWordOver
	}
	return Int(p)
}

// Quo is the quotient of two numbers, cut towards 0.
func Quo(a, b api.Word) (api.Word, api.Errno) {
	m, n, e := divisible(a, b)
	if e != api.OK {
		return 0, e
	}
	return Int(m / n)
}

// Rem is what Quo leaves of a: 0, or a number with a's sign.
func Rem(a, b api.Word) (api.Word, api.Errno) {
	m, n, e := divisible(a, b)
	if e != api.OK {
		return 0, e
	}
	return Int(m % n)
}

// Less tells whether a's number is below b's.
func Less(a, b api.Word) (bool, api.Errno) {
	m, n, e := numbers(a, b)
	if e != api.OK {
		return false, e
	}
	return m < n, api.OK
}

// numbers are those of two words, both of which must be of TagInt.
func numbers(a, b api.Word) (int64, int64, api.Errno) {
	s, m, _ := Of(a)
	t, n, _ := Of(b)
	if s != api.TagInt || t != api.TagInt {
		return 0, 0, api.ErrWordKind
	}
	return m, n, api.OK
}

// divisible are the numbers of two words, the second of which must not be 0.
func divisible(a, b api.Word) (int64, int64, api.Errno) {
	m, n, e := numbers(a, b)
	if e != api.OK {
		return 0, 0, e
	}
	if n == 0 {
		return 0, 0, api.ErrWordZero
	}
	return m, n, api.OK
}
