package tagged

// maxNumber is the greatest number that can be written. The integers are those that it leaves room for.
const (
	maxNumber       = 1<<62 - 1
	leastInteger    = -1 << 61
	greatestInteger = 1<<61 - 1
)

const (
	groupBits = 7
	further   = 1 << groupBits // is added to a byte that is not the last one
)

// appendNumber appends the bytes of a number that is not negative.
func appendNumber(b []byte, n int) []byte {
	for ; n >= further; n >>= groupBits {
		b = append(b, byte(n)|further)
	}
	return append(b, byte(n))
}

func zigzag(n int) int {
	if n < 0 {
		return -2*n - 1
	}
	return 2 * n
}

func unzigzag(n int) int {
	if n%2 != 0 {
		return -(n + 1) / 2
	}
	return n / 2
}
