package limb

import "math/bits"

// commonDivisor is Euclid's algorithm in Lehmer's form: the highest 64 bits
// tell many of its steps, which are then made on all limbs at once. Reducing
// fractions is most of what an election computes, so it has to be quick.
func commonDivisor(a, b Nat) Nat {
	if compare(a, b) < 0 {
		a, b = b, a
	}
	for len(b) > 2 {
		s := foresee(a, b)
		if s.idle() {
			_, rest := divide(a, b)
			a, b = b, rest
		} else {
			a, b = s.applied(a, b)
		}
	}
	if len(b) == 0 {
		return append(Nat{}, a...)
	}
	_, rest := divide(a, b)
	return Of(commonDivisorOfWords(low(b), low(rest)))
}

func commonDivisorOfWords(x, y uint64) uint64 {
	for y != 0 {
		x, y = y, x%y
	}
	return x
}

// steps is what some steps of Euclid's algorithm make of a and b: if even,
// a*a0 - b*b0 and b*b1 - a*a1, and otherwise b*b0 - a*a0 and a*a1 - b*b1.
// All factors are less than 2^32.
type steps struct {
	a0, b0, a1, b1 uint64
	even           bool
}

// idle reports whether no step could be foreseen.
func (s steps) idle() bool { return s.b0 == 0 }

func (s steps) applied(a, b Nat) (Nat, Nat) {
	if s.even {
		return multiples(a, s.a0, b, s.b0), multiples(b, s.b1, a, s.a1)
	}
	return multiples(b, s.b0, a, s.a0), multiples(a, s.a1, b, s.b1)
}

// foresee returns the steps that a and b begin with, as far as their highest
// bits tell, for a that is at least b and has at least three limbs. It stops
// by Collins' condition: up to there the unknown low bits can't alter a
// quotient, and the factors, whose product with what remains of the 64 bits
// stays below 2^64, are less than 2^32.
func foresee(a, b Nat) steps {
	shift := bits.LeadingZeros32(a[len(a)-1])
	x, y := highest(a, len(a), shift), highest(b, len(a), shift)
	s := steps{a1: 1}
	a2, b2 := uint64(0), uint64(1)
	for y >= b2 && x-y >= s.b1+b2 {
		quotient := x / y
		x, y = y, x%y
		s.a0, s.a1, a2 = s.a1, a2, s.a1+quotient*a2
		s.b0, s.b1, b2 = s.b1, b2, s.b1+quotient*b2
		s.even = !s.even
	}
	return s
}

// highest returns the highest 64 bits of a, taken as a number of n limbs with
// shift leading zero bits.
func highest(a Nat, n, shift int) uint64 {
	word := limbAt(a, n-1)<<32 | limbAt(a, n-2)
	return word<<shift | limbAt(a, n-3)>>(32-shift)
}

func limbAt(a Nat, i int) uint64 {
	if i >= len(a) {
		return 0
	}
	return uint64(a[i])
}

// multiples returns a*m - b*k, for m and k below 2^32 and a result that is
// not negative and has no more limbs than the longer of a and b.
func multiples(a Nat, m uint64, b Nat, k uint64) Nat {
	r := make(Nat, max(len(a), len(b)))
	carry, borrow := uint64(0), uint64(0)
	for i := range r {
		carry += limbAt(a, i) * m
		r[i], borrow = lessen(uint32(carry), borrow+limbAt(b, i)*k)
		carry >>= 32
	}
	return trimmed(r)
}
