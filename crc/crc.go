// Package crc is layer 1: sums by which broken texts are told.
package crc

// The sum's polynomial without its highest bit, which falls out of 16 bits, and what a sum begins with.
const (
	polynomial = 0x1021
	start      = 0xFFFF
)

// Sum tells the sum of s.
func Sum(s string) uint16 {
	return More(start, s)
}

// More tells the sum of a text whose sum is that given, with s behind it.
func More(sum uint16, s string) uint16 {
	for i := range len(s) {
		sum ^= uint16(s[i]) << 8
		for range 8 {
			sum = double(sum)
		}
	}
	return sum
}

// Zeros tells the sum of a text whose sum is that given, with n bytes 0 behind it.
func Zeros(sum uint16, n int) uint16 {
	if n < 0 {
		return sum
	}
	return times(sum, byteShift(n))
}

// Join tells the sum of two texts, one behind the other, whose sums are a and b, the second one of n bytes.
func Join(a, b uint16, n int) uint16 {
	if n < 0 {
		return a
	}
	// Sums are linear: b began with start where a should have stood, so what a differs from it goes through n bytes.
	return Zeros(a^start, n) ^ b
}

// Sealed tells s with its sum behind it, the higher byte first.
func Sealed(s string) string {
	sum := Sum(s)
	return s + string([]byte{byte(sum >> 8), byte(sum)})
}

// Open tells what was sealed, and whether s is a sealed text.
func Open(s string) (string, bool) {
	if len(s) < 2 {
		return "", false
	}
	inner := s[:len(s)-2]
	if Sealed(inner) != s {
		return "", false
	}
	return inner, true
}

// Burst tells s with the bits from the bit at on turned by pattern, its highest bit first.
func Burst(s string, at int, pattern uint16) string {
	if at < 0 || at/8 >= len(s) {
		return s
	}
	turned := []byte(s)
	// 16 bits that begin within a byte reach over three bytes at most.
	spread := uint32(pattern) << (8 - at%8)
	for i := range min(3, len(s)-at/8) {
		turned[at/8+i] ^= byte(spread >> (16 - 8*i))
	}
	return string(turned)
}

// double multiplies a sum, taken as a polynomial, by x: that is one bit 0 behind the text.
func double(sum uint16) uint16 {
	if sum&0x8000 != 0 {
		return sum<<1 ^ polynomial
	}
	return sum << 1
}

// times multiplies two polynomials, modulo that of the sum.
func times(a, b uint16) uint16 {
	var product uint16
	for bit := 15; bit >= 0; bit-- {
		product = double(product)
		if b>>bit&1 == 1 {
			product ^= a
		}
	}
	return product
}

// byteShift tells by which polynomial a sum is multiplied when n bytes 0 come behind its text: x to the 8n. It squares, for n may be too great to count up to.
func byteShift(n int) uint16 {
	var shift, power uint16 = 1, 1 << 8
	for ; n > 0; n /= 2 {
		if n%2 == 1 {
			shift = times(shift, power)
		}
		power = times(power, power)
	}
	return shift
}
