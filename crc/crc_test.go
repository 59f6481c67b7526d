package crc

import (
	"math"
	"strings"
	"testing"
)

// dividedSum tells the sum by long division of the text's bits, as the polynomial's meaning has it, and not by shifts of a register.
func dividedSum(s string) uint16 {
	bits := make([]int, 8*len(s)+16)
	for i := range 8 * len(s) {
		bits[i] = int(s[i/8] >> (7 - i%8) & 1)
	}
	for i := range 16 {
		bits[i] ^= 1
	}
	for i := range 8 * len(s) {
		if bits[i] == 1 {
			for _, power := range []int{16, 12, 5, 0} {
				bits[i+16-power] ^= 1
			}
		}
	}
	var sum uint16
	for _, bit := range bits[8*len(s):] {
		sum = sum<<1 | uint16(bit)
	}
	return sum
}

// turnedBits tells s with a burst, bit by bit.
func turnedBits(s string, at int, pattern uint16) string {
	if at < 0 || at >= 8*len(s) {
		return s
	}
	turned := []byte(s)
	for k := range 16 {
		bit := at + k
		if bit < 8*len(s) && pattern>>(15-k)&1 == 1 {
			turned[bit/8] ^= 0x80 >> (bit % 8)
		}
	}
	return string(turned)
}

// everyByte is a text of all 256 bytes.
func everyByte() string {
	all := make([]byte, 256)
	for i := range all {
		all[i] = byte(i)
	}
	return string(all)
}

func texts() []string {
	return []string{
		"", "\x00", "\xff", "A", "ab", "\x00\x00", "\xff\xff", "123456789", "fugleman", "\xc3\x28 no runes \xff",
		strings.Repeat("\x00", 40), strings.Repeat("\xff", 41), strings.Repeat("a token round ", 30), everyByte(),
	}
}

func sums() []uint16 {
	return []uint16{0, 1, 0x1021, 0x29B1, 0x7FFF, 0x8000, 0xFFFE, 0xFFFF}
}

func TestSum(t *testing.T) {
	known := map[string]uint16{"": 0xFFFF, "123456789": 0x29B1, "A": 0xB915, "\x00": 0xE1F0}
	for s, want := range known {
		if got := Sum(s); got != want {
			t.Errorf("Sum(%q) = %04X, want %04X", s, got, want)
		}
	}
	for _, s := range texts() {
		if got, want := Sum(s), dividedSum(s); got != want {
			t.Errorf("Sum(%q) = %04X, want %04X", s, got, want)
		}
	}
	for b := range 256 {
		s := string([]byte{byte(b)})
		if got, want := Sum(s), dividedSum(s); got != want {
			t.Errorf("Sum(%q) = %04X, want %04X", s, got, want)
		}
	}
}

func TestMoreGoesOnWhereTheSumStands(t *testing.T) {
	for _, s := range texts() {
		for cut := range len(s) + 1 {
			if got, want := More(Sum(s[:cut]), s[cut:]), dividedSum(s); got != want {
				t.Errorf("More(Sum(%q), %q) = %04X, want %04X", s[:cut], s[cut:], got, want)
			}
		}
	}
	for _, sum := range sums() {
		if got := More(sum, ""); got != sum {
			t.Errorf("More(%04X, nothing) = %04X", sum, got)
		}
	}
	if got := More(0, "\x01"); got != 0x1021 {
		t.Errorf("More(0, 01) = %04X, want the polynomial", got)
	}
}

func TestZerosOfFewBytes(t *testing.T) {
	for _, sum := range sums() {
		want := sum
		for n := range 700 {
			if got := Zeros(sum, n); got != want {
				t.Fatalf("Zeros(%04X, %d) = %04X, want %04X", sum, n, got, want)
			}
			want = More(want, "\x00")
		}
	}
	for _, s := range texts() {
		if got, want := Zeros(Sum(s), 9), dividedSum(s+strings.Repeat("\x00", 9)); got != want {
			t.Errorf("%q: %04X, want %04X", s, got, want)
		}
	}
}

func TestZerosOfNoneAndBelow(t *testing.T) {
	for _, sum := range sums() {
		for _, n := range []int{0, -1, -2, -8, -1 << 40, math.MinInt + 1, math.MinInt} {
			if got := Zeros(sum, n); got != sum {
				t.Errorf("Zeros(%04X, %d) = %04X", sum, n, got)
			}
		}
	}
}

func TestZerosOfVeryMany(t *testing.T) {
	const period = 1<<15 - 1
	for _, sum := range sums() {
		if got := More(sum, strings.Repeat("\x00", period)); got != sum {
			t.Fatalf("%04X doesn't come back behind %d bytes: %04X", sum, period, got)
		}
		for _, n := range []int{period - 1, period, period + 1, 65535, 65536, 1<<31 - 1, 1 << 31, 1 << 40, 1<<62 + 12345, math.MaxInt - 1, math.MaxInt} {
			if got, want := Zeros(sum, n), More(sum, strings.Repeat("\x00", n%period)); got != want {
				t.Errorf("Zeros(%04X, %d) = %04X, want %04X", sum, n, got, want)
			}
		}
	}
}

func TestJoin(t *testing.T) {
	for _, front := range texts() {
		for _, back := range texts() {
			got, want := Join(Sum(front), Sum(back), len(back)), dividedSum(front+back)
			if got != want {
				t.Errorf("Join of %q and %q = %04X, want %04X", front, back, got, want)
			}
		}
	}
}

func TestJoinAtTheEndsOfN(t *testing.T) {
	for _, a := range sums() {
		if got := Join(a, Sum(""), 0); got != a {
			t.Errorf("Join(%04X, FFFF, 0) = %04X", a, got)
		}
		for _, b := range sums() {
			for _, n := range []int{-1, -2, -1 << 40, math.MinInt} {
				if got := Join(a, b, n); got != a {
					t.Errorf("Join(%04X, %04X, %d) = %04X", a, b, n, got)
				}
			}
		}
		for _, n := range []int{1 << 16, 1 << 40, math.MaxInt} {
			if got, want := Join(a, Zeros(Sum(""), n), n), Zeros(a, n); got != want {
				t.Errorf("Join(%04X, .., %d) = %04X, want %04X", a, n, got, want)
			}
		}
	}
}

func TestSealedAndOpen(t *testing.T) {
	if got := Sealed("123456789"); got != "123456789\x29\xb1" {
		t.Errorf("Sealed = %q", got)
	}
	if got := Sealed(""); got != "\xff\xff" {
		t.Errorf("Sealed(nothing) = %q", got)
	}
	for _, s := range texts() {
		sum := dividedSum(s)
		want := s + string([]byte{byte(sum >> 8), byte(sum)})
		if got := Sealed(s); got != want {
			t.Errorf("Sealed(%q) = %q, want %q", s, got, want)
		}
		if inner, ok := Open(want); !ok || inner != s {
			t.Errorf("Open(%q) = %q, %v", want, inner, ok)
		}
	}
	if inner, ok := Open(Sealed(Sealed("twice"))); !ok || inner != Sealed("twice") {
		t.Errorf("sealed twice: %q, %v", inner, ok)
	}
}

func TestOpenOfOthers(t *testing.T) {
	sealed := Sealed("fugleman")
	last := len(sealed) - 1
	swapped := sealed[:last-1] + sealed[last:] + sealed[last-1:last]
	others := []string{"", "\x00", "\xff", "ab", "\x00\x00", "\xff\xfe", "123456789", swapped, sealed[:last], sealed[1:], sealed + "\x01", "\x00" + sealed}
	for _, s := range others {
		if inner, ok := Open(s); ok || inner != "" {
			t.Errorf("Open(%q) = %q, %v", s, inner, ok)
		}
	}
	for high := range 256 {
		for low := range 256 {
			s := string([]byte{'A', byte(high), byte(low)})
			inner, ok := Open(s)
			if want := high == 0xB9 && low == 0x15; ok != want || !ok && inner != "" {
				t.Errorf("Open(%q) = %q, %v", s, inner, ok)
			}
		}
	}
}

func TestBurst(t *testing.T) {
	for _, c := range []struct {
		name    string
		s       string
		at      int
		pattern uint16
		want    string
	}{
		{"first bit", "\x00\x00\x00", 0, 0x8000, "\x80\x00\x00"},
		{"two whole bytes", "\x00\x00\x00", 0, 0xA5C3, "\xa5\xc3\x00"},
		{"lowest bit of the pattern", "\x00\x00\x00", 1, 1, "\x00\x00\x80"},
		{"across three bytes", "\x00\x00\x00\x00", 4, 0xFFFF, "\x0f\xff\xf0\x00"},
		{"from a byte's last bit", "\x00\x00\x00\x00", 7, 0xFFFF, "\x01\xff\xfe\x00"},
		{"from the second byte", "\x00\x00\x00\x00", 8, 0x1234, "\x00\x12\x34\x00"},
		{"turned, not set", "\xff\xff\xff", 4, 0xFFFF, "\xf0\x00\x0f"},
		{"last bit", "\x00\x00", 15, 0x8000, "\x00\x01"},
		{"last bit, the rest behind the text", "\x00\x00", 15, 0xFFFF, "\x00\x01"},
		{"all of it behind the text", "\x00\x00", 15, 0x7FFF, "\x00\x00"},
		{"across the text's end", "\x00\x00", 9, 0x8001, "\x00\x40"},
		{"across the end of one byte", "\x00", 7, 0xFFFF, "\x01"},
		{"one byte, two bytes of pattern", "\x00", 0, 0xFFFF, "\xff"},
		{"the bit behind the last", "\x00", 8, 0xFFFF, "\x00"},
		{"far behind", "ab", 1000, 0xFFFF, "ab"},
		{"the greatest bit", "ab", math.MaxInt, 0xFFFF, "ab"},
		{"a bit ahead of the first", "ab", -1, 0xFFFF, "ab"},
		{"eight bits ahead of the first", "ab", -8, 0xFFFF, "ab"},
		{"the least bit", "ab", math.MinInt, 0xFFFF, "ab"},
		{"no text", "", 0, 0xFFFF, ""},
		{"no pattern", "ab", 3, 0, "ab"},
	} {
		if got := Burst(c.s, c.at, c.pattern); got != c.want {
			t.Errorf("%s: Burst(%q, %d, %04X) = %q, want %q", c.name, c.s, c.at, c.pattern, got, c.want)
		}
	}
}

func TestBurstEverywhere(t *testing.T) {
	for _, s := range []string{"", "\x5a", "ab", "\x00\xff\x00", "fugleman"} {
		for at := -20; at < 8*len(s)+20; at++ {
			for _, pattern := range []uint16{0, 1, 2, 0x0101, 0x7FFE, 0x8000, 0x8001, 0xA5C3, 0xFFFF} {
				got, want := Burst(s, at, pattern), turnedBits(s, at, pattern)
				if got != want {
					t.Errorf("Burst(%q, %d, %04X) = %q, want %q", s, at, pattern, got, want)
				}
				if again := Burst(got, at, pattern); again != s {
					t.Errorf("%q, turned twice at %d by %04X: %q", s, at, pattern, again)
				}
			}
		}
	}
}

// TestBurstIsNotOpened goes through all bursts of short texts, those that reach into the sum and begin in it among them (P1.2).
func TestBurstIsNotOpened(t *testing.T) {
	for _, s := range []string{"", "\x00", "ab"} {
		sealed := Sealed(s)
		for at := range 8 * len(sealed) {
			for pattern := range 1 << 16 {
				hurt := Burst(sealed, at, uint16(pattern))
				inner, ok := Open(hurt)
				switch {
				case hurt != sealed && (ok || inner != ""):
					t.Fatalf("%q, hurt at %d by %04X, is opened: %q, %v", s, at, pattern, inner, ok)
				case hurt == sealed && (!ok || inner != s):
					t.Fatalf("%q, not hurt at %d by %04X, isn't opened", s, at, pattern)
				}
			}
		}
	}
}

func TestBurstOfALongTextIsNotOpened(t *testing.T) {
	for _, s := range texts() {
		sealed := Sealed(s)
		for at := range 8 * len(sealed) {
			for _, pattern := range []uint16{0x8000, 0x8001, 0x8810, 0xC000, 0xA5A5, 0x9021, 0xFFFF} {
				if inner, ok := Open(Burst(sealed, at, pattern)); ok || inner != "" {
					t.Fatalf("%q, hurt at %d by %04X, is opened", s, at, pattern)
				}
			}
		}
	}
}

// TestEveryCallEnds hands in what lies at the ends of each kind and beside them (P0).
func TestEveryCallEnds(t *testing.T) {
	numbers := []int{math.MinInt, math.MinInt + 1, -1 << 32, -9, -8, -1, 0, 1, 7, 8, 15, 16, 1 << 31, 1 << 32, 1 << 61, math.MaxInt - 7, math.MaxInt}
	for _, s := range append(texts(), strings.Repeat("\xa5", 1<<20)) {
		Sum(s)
		Sealed(s)
		Open(s)
		for _, sum := range sums() {
			More(sum, s)
		}
		for _, at := range numbers {
			for _, pattern := range []uint16{0, 1, 0xFFFF} {
				Burst(s, at, pattern)
			}
		}
	}
	for _, a := range sums() {
		for _, n := range numbers {
			Zeros(a, n)
			for _, b := range sums() {
				Join(a, b, n)
			}
		}
	}
}
