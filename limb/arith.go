package limb

// The functions here take well formed naturals and return new memory. A sum
// or a product may have more than api.MaxLimbs limbs.

func compare(a, b Nat) int {
	if len(a) != len(b) {
		return sign(len(a) > len(b))
	}
	for i := len(a) - 1; i >= 0; i-- {
		if a[i] != b[i] {
			return sign(a[i] > b[i])
		}
	}
	return 0
}

func sign(greater bool) int {
	if greater {
		return 1
	}
	return -1
}

func sum(a, b Nat) Nat {
	if len(a) < len(b) {
		a, b = b, a
	}
	r := make(Nat, len(a)+1)
	carry := uint64(0)
	for i := range a {
		carry += uint64(a[i])
		if i < len(b) {
			carry += uint64(b[i])
		}
		r[i] = uint32(carry)
		carry >>= 32
	}
	r[len(a)] = uint32(carry)
	return trimmed(r)
}

// difference needs a to be at least b.
func difference(a, b Nat) Nat {
	r := make(Nat, len(a))
	copy(r, a)
	borrow := uint64(0)
	for i := range r {
		take := borrow
		if i < len(b) {
			take += uint64(b[i])
		}
		r[i], borrow = lessen(r[i], take)
	}
	return trimmed(r)
}

// lessen returns limb - take modulo 2^32, and how many times 2^32 had to be
// borrowed for it.
func lessen(limb uint32, take uint64) (uint32, uint64) {
	borrow := take >> 32
	if limb < uint32(take) {
		borrow++
	}
	return limb - uint32(take), borrow
}

func product(a, b Nat) Nat {
	r := make(Nat, len(a)+len(b))
	for i, x := range a {
		carry := uint64(0)
		for j, y := range b {
			// At most (2^32-1)^2 + 2*(2^32-1), which is 2^64-1.
			carry += uint64(x)*uint64(y) + uint64(r[i+j])
			r[i+j] = uint32(carry)
			carry >>= 32
		}
		r[i+len(b)] = uint32(carry)
	}
	return trimmed(r)
}
