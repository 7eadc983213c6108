// Package limb computes with natural numbers of up to api.MaxLimbs limbs of 32 bits.
package limb

import (
	"psephos/api"
)

// Nat is a natural: its limbs, the least one first. It is well formed if the
// last limb is not 0 and there are at most api.MaxLimbs; 0 has no limbs.
type Nat []uint32

// Of returns n as a natural.
func Of(n uint64) Nat {
	return trimmed(Nat{uint32(n), uint32(n >> 32)})
}

// Formed reports whether a is well formed.
func Formed(a Nat) bool {
	return len(a) <= api.MaxLimbs && (len(a) == 0 || a[len(a)-1] != 0)
}

// Cmp returns -1, 0 or 1 if a is less than, equal to or greater than b, and 0
// if one of them is not well formed.
func Cmp(a, b Nat) int {
	if !Formed(a) || !Formed(b) {
		return 0
	}
	return compare(a, b)
}

// Low returns a and true if a is well formed and less than 2^64.
func Low(a Nat) (uint64, bool) {
	if !Formed(a) || len(a) > 2 {
		return 0, false
	}
	return low(a), true
}

// Add returns a + b.
func Add(a, b Nat) (Nat, api.Errno) {
	if !Formed(a) || !Formed(b) {
		return nil, api.ErrArg
	}
	return limited(sum(a, b))
}

// Sub returns a - b, or ErrRange if a is less than b.
func Sub(a, b Nat) (Nat, api.Errno) {
	if !Formed(a) || !Formed(b) {
		return nil, api.ErrArg
	}
	if compare(a, b) < 0 {
		return nil, api.ErrRange
	}
	return difference(a, b), api.OK
}

// Mul returns a * b.
func Mul(a, b Nat) (Nat, api.Errno) {
	if !Formed(a) || !Formed(b) {
		return nil, api.ErrArg
	}
	return limited(product(a, b))
}

// DivMod returns a / b, rounded down, and the remainder, or ErrNone if b is 0.
func DivMod(a, b Nat) (Nat, Nat, api.Errno) {
	if !Formed(a) || !Formed(b) {
		return nil, nil, api.ErrArg
	}
	if len(b) == 0 {
		return nil, nil, api.ErrNone
	}
	quotient, rest := divide(a, b)
	return quotient, rest, api.OK
}

// Gcd returns the greatest natural that divides both a and b, and 0 for 0 and 0.
func Gcd(a, b Nat) (Nat, api.Errno) {
	if !Formed(a) || !Formed(b) {
		return nil, api.ErrArg
	}
	return commonDivisor(a, b), api.OK
}

// limited returns a, or ErrLong if it has more limbs than a natural may have.
func limited(a Nat) (Nat, api.Errno) {
	if len(a) > api.MaxLimbs {
		return nil, api.ErrLong
	}
	return a, api.OK
}

// trimmed returns a without the zeros at its end.
func trimmed(a Nat) Nat {
	n := len(a)
	for n > 0 && a[n-1] == 0 {
		n--
	}
	return a[:n]
}

// low returns a natural of at most two limbs.
func low(a Nat) uint64 {
	n := uint64(0)
	for i, limb := range a {
		n |= uint64(limb) << (32 * i)
	}
	return n
}
