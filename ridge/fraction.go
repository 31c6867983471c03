package ridge

import (
	"cmp"

	"firetower/api"
)

func validFraction(f api.Fraction) bool {
	return within(f.Num, -api.MaxPart, api.MaxPart) && within(f.Den, 1, api.MaxWhole)
}

// lowest returns a number divided by one that is greater than 0, in lowest terms.
func lowest(num, den int) api.Fraction {
	d := divisor(num, den)
	return api.Fraction{Num: num / d, Den: den / d}
}

// divisor returns the greatest common divisor of two numbers of which one is not 0.
func divisor(a, b int) int {
	for b != 0 {
		a, b = b, a%b
	}
	return max(a, -a)
}

// Smallest returns the fraction in lowest terms.
func Smallest(f api.Fraction) (api.Fraction, api.Errno) {
	if !validFraction(f) {
		return api.Fraction{}, api.ErrArg
	}
	return lowest(f.Num, f.Den), api.OK
}

// Compare returns the order of two fractions.
func Compare(a, b api.Fraction) (int, api.Errno) {
	if !validFraction(a) || !validFraction(b) {
		return 0, api.ErrArg
	}
	// No product is beyond an int: MaxPart times MaxWhole is 2^60.
	return cmp.Compare(a.Num*b.Den, b.Num*a.Den), api.OK
}
