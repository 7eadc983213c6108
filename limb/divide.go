package limb

import "math/bits"

// divide needs b not to be 0.
func divide(a, b Nat) (Nat, Nat) {
	if compare(a, b) < 0 {
		return nil, append(Nat{}, a...)
	}
	if len(b) == 1 {
		quotient, rest := divideByLimb(a, uint64(b[0]))
		return quotient, Of(rest)
	}
	return divideLong(a, b)
}

func divideByLimb(a Nat, b uint64) (Nat, uint64) {
	quotient := make(Nat, len(a))
	rest := uint64(0)
	for i := len(a) - 1; i >= 0; i-- {
		rest = rest<<32 | uint64(a[i])
		quotient[i] = uint32(rest / b)
		rest %= b
	}
	return trimmed(quotient), rest
}

// divideLong is Knuth's algorithm D, for a divisor of two limbs or more that
// is at most a. Both are shifted until the divisor's highest bit is set, so
// that each limb of the quotient can be guessed from the highest limbs.
func divideLong(a, b Nat) (Nat, Nat) {
	n := len(b)
	shift := bits.LeadingZeros32(b[n-1])
	rest := shiftedLeft(a, shift)
	divisor := shiftedLeft(b, shift)[:n]
	quotient := make(Nat, len(a)-n+1)
	for i := len(quotient) - 1; i >= 0; i-- {
		window := rest[i : i+n+1]
		guess := guessLimb(window, divisor)
		if takeTimes(window, divisor, guess) {
			guess--
			putBack(window, divisor)
		}
		quotient[i] = uint32(guess)
	}
	return trimmed(quotient), trimmed(shiftedRight(rest[:n], shift))
}

// guessLimb divides window, which has one limb more than divisor, by divisor,
// looking at the highest limbs only: the guess is right or too great by 1.
func guessLimb(window, divisor Nat) uint64 {
	n := len(divisor)
	top := uint64(window[n])<<32 | uint64(window[n-1])
	first, second := uint64(divisor[n-1]), uint64(divisor[n-2])
	guess, rest := top/first, top%first
	for rest < 1<<32 && (guess >= 1<<32 || guess*second > rest<<32|uint64(window[n-2])) {
		guess--
		rest += first
	}
	return guess
}

// takeTimes subtracts times * divisor from window, and reports whether that
// was more than window.
func takeTimes(window, divisor Nat, times uint64) bool {
	n := len(divisor)
	carry := uint64(0)
	for i, limb := range divisor {
		window[i], carry = lessen(window[i], carry+times*uint64(limb))
	}
	window[n], carry = lessen(window[n], carry)
	return carry > 0
}

// putBack adds divisor to window, modulo the size of window.
func putBack(window, divisor Nat) {
	carry := uint64(0)
	for i, limb := range divisor {
		carry += uint64(window[i]) + uint64(limb)
		window[i] = uint32(carry)
		carry >>= 32
	}
	window[len(divisor)] += uint32(carry)
}

// shiftedLeft returns a times 2^shift, with one limb more than a, for a shift
// below 32.
func shiftedLeft(a Nat, shift int) Nat {
	r := make(Nat, len(a)+1)
	over := uint64(0)
	for i, limb := range a {
		over |= uint64(limb) << shift
		r[i] = uint32(over)
		over >>= 32
	}
	r[len(a)] = uint32(over)
	return r
}

// shiftedRight returns a divided by 2^shift, rounded down, for a shift below 32.
func shiftedRight(a Nat, shift int) Nat {
	r := make(Nat, len(a))
	over := uint64(0)
	for i := len(a) - 1; i >= 0; i-- {
		over = over<<32 | uint64(a[i])
		r[i] = uint32(over >> shift)
	}
	return r
}
