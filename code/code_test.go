package code

import (
	"fmt"
	"math"
	"slices"
	"strings"
	"testing"

	"fugleman/api"
)

// trait is what chapter 11 says of a kind.
type trait struct {
	kind        int
	size        int
	least, most int64
}

func traits() []trait {
	return []trait{
		{api.Bool, 1, 0, 1},
		{api.Sint, 1, -128, 127},
		{api.Int, 2, -32768, 32767},
		{api.Dint, 4, -2147483648, 2147483647},
		{api.Uint, 2, 0, 65535},
		{api.Word, 2, 0, 65535},
		{api.Dword, 4, 0, 4294967295},
	}
}

func traitOf(kind int) (trait, bool) {
	if kind < 1 || kind > 7 {
		return trait{}, false
	}
	return traits()[kind-1], true
}

func within[T int | int64](n, least, most T) bool {
	return n >= least && n <= most
}

// may tells by the numbers of chapter 12's table whether an instruction may be.
func may(i api.Instr) bool {
	tr, kinded := traitOf(i.Kind)
	there := within(i.Area, 2, 4) && within(i.At, 0, 64-tr.size)
	switch i.Op {
	case 1, 2, 7, 8, 9, 10, 11, 12, 14, 15, 16, 17, 18, 19, 20, 21, 22, 23, 24:
		there = within(i.Area, 1, 4) && within(i.At, 0, 64-tr.size)
		return kinded && (there && i.N == 0 || i.Area == 0 && i.At == 0 && within(i.N, tr.least, tr.most))
	case 3, 4, 5, 6:
		return kinded && there && i.N == 0
	case 25, 26, 27:
		return i.Kind == 0 && i.Area == 0 && within(i.At, 0, 200) && i.N == 0
	case 13, 28, 29, 30, 33:
		return i.Kind == 0 && i.Area == 0 && i.At == 0 && i.N == 0
	case 31:
		return kinded && i.Area == 0 && i.At == 0 && i.N == 0
	case 32:
		return i.Kind == 0 && i.Area == 0 && (within(i.At, 7, 12) || within(i.At, 14, 24)) && i.N == 0
	case 34, 35:
		return i.Kind == 0 && within(i.Area, 3, 4) && within(i.At, 0, 59) && within(i.N, 1, 9999)
	case 36:
		return i.Kind == 0 && within(i.Area, 3, 4) && within(i.At, 0, 63) && i.N == 0
	}
	return false
}

func loads() []int {
	return []int{1, 2, 7, 8, 9, 10, 11, 12, 14, 15, 16, 17, 18, 19, 20, 21, 22, 23, 24}
}

// literals are those of each operation and each kind, at both ends of the kind's values and beside 0.
func literals() []api.Instr {
	list := []api.Instr{}
	for _, op := range loads() {
		for _, tr := range traits() {
			for _, n := range []int64{tr.least, tr.least + 1, -129, -128, -1, 0, 1, 127, 128, 255, 256, 65535, tr.most - 1, tr.most} {
				if within(n, tr.least, tr.most) {
					list = append(list, api.Instr{Op: op, Kind: tr.kind, N: n})
				}
			}
		}
	}
	return list
}

// placed are those with each place of each kind in each area.
func placed() []api.Instr {
	list := []api.Instr{}
	for _, tr := range traits() {
		for area := 1; area <= 4; area++ {
			for at := 0; at+tr.size <= 64; at++ {
				for _, op := range loads() {
					list = append(list, api.Instr{Op: op, Kind: tr.kind, Area: area, At: at})
				}
				for op := api.ST; op <= api.R && area > 1; op++ {
					list = append(list, api.Instr{Op: op, Kind: tr.kind, Area: area, At: at})
				}
			}
		}
	}
	return list
}

// others are all that ask for neither a literal nor a kind's place, with some of the numbers of TON and CTU.
func others() []api.Instr {
	list := []api.Instr{{Op: api.NOT}, {Op: api.RET}, {Op: api.RETC}, {Op: api.RETCN}, {Op: api.CLOSE}}
	for at := 0; at <= 200; at++ {
		list = append(list, api.Instr{Op: api.JMP, At: at}, api.Instr{Op: api.JMPC, At: at}, api.Instr{Op: api.JMPCN, At: at})
	}
	for kind := 1; kind <= 7; kind++ {
		list = append(list, api.Instr{Op: api.CONV, Kind: kind})
	}
	for _, op := range loads()[2:] {
		list = append(list, api.Instr{Op: api.OPEN, At: op})
	}
	for area := 3; area <= 4; area++ {
		for at := range 64 {
			list = append(list, api.Instr{Op: api.TRIG, Area: area, At: at})
		}
		for at := range 60 {
			for _, n := range []int64{1, 2, 127, 128, 255, 256, 257, 9998, 9999} {
				list = append(list, api.Instr{Op: api.TON, Area: area, At: at, N: n}, api.Instr{Op: api.CTU, Area: area, At: at, N: n})
			}
		}
	}
	return list
}

func allRight() []api.Instr {
	return slices.Concat(literals(), placed(), others())
}

// fewRight are one or some of each operation, at the ends of their numbers.
func fewRight() []api.Instr {
	list := []api.Instr{
		{Op: api.NOT}, {Op: api.RET}, {Op: api.RETC}, {Op: api.RETCN}, {Op: api.CLOSE},
		{Op: api.JMP}, {Op: api.JMPC, At: 127}, {Op: api.JMPCN, At: 200},
		{Op: api.CONV, Kind: api.Bool}, {Op: api.CONV, Kind: api.Dword},
		{Op: api.OPEN, At: api.AND}, {Op: api.OPEN, At: api.LT},
		{Op: api.TON, Area: api.Memory, N: 9999}, {Op: api.TON, Area: api.Retain, At: 59, N: 1},
		{Op: api.CTU, Area: api.Memory, At: 59, N: 9999}, {Op: api.CTU, Area: api.Retain, N: 256},
		{Op: api.TRIG, Area: api.Memory}, {Op: api.TRIG, Area: api.Retain, At: 63},
	}
	for _, tr := range traits() {
		list = append(list, api.Instr{Op: api.LD, Kind: tr.kind, N: tr.least}, api.Instr{Op: api.ADD, Kind: tr.kind, N: tr.most})
		list = append(list, api.Instr{Op: api.LDN, Kind: tr.kind, Area: api.Input}, api.Instr{Op: api.LT, Kind: tr.kind, Area: api.Retain, At: 64 - tr.size})
		list = append(list, api.Instr{Op: api.ST, Kind: tr.kind, Area: api.Output, At: 64 - tr.size}, api.Instr{Op: api.R, Kind: tr.kind, Area: api.Memory})
	}
	return list
}

// wrongNear are all that differ from those of fewRight in one number, and may not be. Many of them would be right, if that number lost what doesn't find place in its bytes.
func wrongNear() []api.Instr {
	list := []api.Instr{}
	add := func(i api.Instr) {
		if !may(i) {
			list = append(list, i)
		}
	}
	for _, i := range fewRight() {
		for _, far := range []int{-1 << 40, -1 << 32, -1 << 16, -512, -256, -128, -1, 1, 64, 128, 255, 256, 512, 1 << 16, 1 << 32, 1 << 40, math.MinInt} {
			op, kind, area, at, n := i, i, i, i, i
			op.Op += far
			kind.Kind += far
			area.Area += far
			at.At += far
			n.N += int64(far)
			add(op)
			add(kind)
			add(area)
			add(at)
			add(n)
		}
		for _, most := range []int64{math.MinInt64, math.MaxInt64, 1<<32 - 1, 1 << 31, -1<<31 - 1} {
			n := i
			n.N = most
			add(n)
		}
	}
	return list
}

// wrongOnes are a few that may not be, for one reason each.
func wrongOnes() []api.Instr {
	return []api.Instr{
		{}, {Op: 37}, {Op: -1}, {Op: 255}, {Op: 256 + api.RET}, {Op: 1<<32 + api.RET}, {Op: math.MinInt + api.RET},
		{Op: api.LD, Kind: api.Bool, N: 2}, {Op: api.LD, Kind: api.Sint, N: 128}, {Op: api.LD, Kind: api.Dword, N: -1}, {Op: api.LD, Kind: api.Dword, N: 1 << 32}, {Op: api.LD, Kind: api.Dint, N: 1 << 31}, {Op: api.LD, Kind: api.Dint, N: 1<<32 - 1},
		{Op: api.LD, Kind: 8}, {Op: api.LD, Kind: 256 + api.Bool}, {Op: api.LD, Kind: api.Int, Area: api.Input, At: 63}, {Op: api.LD, Kind: api.Int, Area: 5}, {Op: api.LD, Kind: api.Int, Area: 256 + api.Input}, {Op: api.LD, Kind: api.Int, Area: api.Input, At: 256}, {Op: api.LD, Kind: api.Int, Area: api.Input, N: 1}, {Op: api.LD, Kind: api.Int, Area: api.Input, N: 1 << 32},
		{Op: api.ST, Kind: api.Int}, {Op: api.ST, Kind: api.Int, Area: api.Input},
		{Op: api.JMP, At: 201}, {Op: api.JMP, At: 256}, {Op: api.JMP, At: -1}, {Op: api.OPEN}, {Op: api.OPEN, At: api.NOT}, {Op: api.OPEN, At: 256 + api.AND},
		{Op: api.TON, Area: api.Memory}, {Op: api.TON, Area: api.Memory, N: 10000}, {Op: api.CTU, Area: api.Memory, N: 1<<32 + 1}, {Op: api.CTU, Area: api.Memory, At: 60, N: 1}, {Op: api.TRIG, Area: api.Output}, {Op: api.TRIG, Area: api.Memory, N: 1},
	}
}

// program is one of so many instructions, each of them another one of fewRight than its neighbours.
func program(n int) []api.Instr {
	list := make([]api.Instr, n)
	few := fewRight()
	for at := range list {
		list[at] = few[(at*7+n)%len(few)]
	}
	return list
}

// plainSum divides the bits of a text, of which the first 16 are turned, by the polynomial, one bit after another.
func plainSum(s string) uint16 {
	sum := uint32(0)
	for bit := range len(s)*8 + 16 {
		next := uint32(0)
		if bit < len(s)*8 {
			next = uint32(s[bit/8]>>(7-bit%8)) & 1
		}
		if bit < 16 {
			next ^= 1
		}
		sum = sum<<1 | next
		if sum&0x10000 != 0 {
			sum ^= 0x11021
		}
	}
	return uint16(sum)
}

// sealed is s with its sum behind it.
func sealed(s string) string {
	sum := plainSum(s)
	return s + string([]byte{byte(sum / 256), byte(sum % 256)})
}

// bare is the bytes of a program without their sum, whether its instructions may be or not.
func bare(list []api.Instr) string {
	b := []byte{byte(len(list))}
	for _, i := range list {
		n := (i.N%4294967296 + 4294967296) % 4294967296
		b = append(b, byte(i.Op), byte(i.Kind), byte(i.Area), byte(i.At))
		b = append(b, byte(n/16777216), byte(n/65536%256), byte(n/256%256), byte(n%256))
	}
	return string(b)
}

// plainDecode reads by places.
func plainDecode(s string) ([]api.Instr, api.Errno) {
	end := len(s) - 2
	if end < 0 || sealed(s[:end]) != s {
		return nil, api.ErrCrc
	}
	if end < 1 || end != 1+8*int(s[0]) {
		return nil, api.ErrLen
	}
	if s[0] > 200 {
		return nil, api.ErrLong
	}
	list := []api.Instr{}
	for at := 1; at < end; at += 8 {
		i := api.Instr{Op: int(s[at]), Kind: int(s[at+1]), Area: int(s[at+2]), At: int(s[at+3])}
		for _, b := range []byte(s[at+4 : at+8]) {
			i.N = i.N*256 + int64(b)
		}
		if i.Kind != api.Dword && i.N >= 2147483648 {
			i.N -= 4294967296
		}
		if !may(i) {
			return nil, api.ErrForm
		}
		list = append(list, i)
	}
	return list, api.OK
}

// checkRight holds that a program has the bytes of the chapter, and its sum, and is decoded of them.
func checkRight(t *testing.T, list []api.Instr) {
	t.Helper()
	given := slices.Clone(list)
	plain := bare(list)
	want := sealed(plain)
	if got, e := Encode(list); got != want || e != api.OK {
		t.Fatalf("Encode(%v) = % x, %d, want % x", given, got, e, want)
	}
	if got := Stamp(list); got != plainSum(plain) {
		t.Fatalf("Stamp(%v) = %x, want %x", given, got, plainSum(plain))
	}
	if got, e := Decode(want); !slices.Equal(got, given) || e != api.OK {
		t.Fatalf("Decode(% x) = %v, %d, want %v", want, got, e, given)
	}
	if !slices.Equal(list, given) {
		t.Fatalf("%v became %v", given, list)
	}
}

// checkWrong holds that a program has no bytes.
func checkWrong(t *testing.T, list []api.Instr, want api.Errno) {
	t.Helper()
	given := slices.Clone(list)
	if got, e := Encode(list); got != "" || e != want {
		t.Fatalf("Encode of %d, %v = % x, %d, want %d", len(given), given, got, e, want)
	}
	if got := Stamp(list); got != 0 {
		t.Fatalf("Stamp of %d, %v = %x", len(given), given, got)
	}
	if !slices.Equal(list, given) {
		t.Fatalf("%v became %v", given, list)
	}
}

func checkProgram(t *testing.T, list []api.Instr) {
	t.Helper()
	switch {
	case len(list) > 200:
		checkWrong(t, list, api.ErrLong)
	case slices.ContainsFunc(list, func(i api.Instr) bool { return !may(i) }):
		checkWrong(t, list, api.ErrForm)
	default:
		checkRight(t, list)
	}
}

// checkNone holds that s is no program's bytes.
func checkNone(t *testing.T, name, s string, want api.Errno) {
	t.Helper()
	if got, e := Decode(s); len(got) != 0 || e != want {
		t.Fatalf("%s: Decode(%.60q, %d bytes) = %v, %d, want %d", name, s, len(s), got, e, want)
	}
}

// checkDecode holds what s is decoded as, and that what is decoded has these bytes; it tells the error.
func checkDecode(t *testing.T, name, s string) api.Errno {
	t.Helper()
	want, wantErr := plainDecode(s)
	got, e := Decode(s)
	if !slices.Equal(got, want) || e != wantErr {
		t.Fatalf("%s: Decode(%.60q, %d bytes) = %v, %d, want %v, %d", name, s, len(s), got, e, want, wantErr)
	}
	if e != api.OK {
		return e
	}
	if again, e := Encode(got); again != s || e != api.OK {
		t.Fatalf("%s: Decode(%.60q) = %v, whose bytes are % x, %d", name, s, got, again, e)
	}
	return api.OK
}

// dice are numbers in no order, always the same ones.
type dice uint64

func (d *dice) next() uint32 {
	*d = *d*6364136223846793005 + 1442695040888963407
	return uint32(*d >> 32)
}

func (d *dice) below(n int) int {
	return int(uint64(d.next()) * uint64(n) >> 32)
}

func (d *dice) bytes(n int) string {
	b := make([]byte, n)
	for at := range b {
		b[at] = byte(d.next() >> 24)
	}
	return string(b)
}

func anyOf[T any](d *dice, list []T) T {
	return list[d.below(len(list))]
}

// TestBytesOfKnownPrograms holds each byte, and the sum, against bytes that were reckoned elsewhere.
func TestBytesOfKnownPrograms(t *testing.T) {
	for want, list := range map[string][]api.Instr{
		"\x00\xe1\xf0": {},
		"\x01\x1c\x00\x00\x00\x00\x00\x00\x00\xdf\x52": {{Op: api.RET}},
		"\x01\x22\x00\x04\x3b\x00\x00\x27\x0f\x8f\xb1": {{Op: api.TON, Area: api.Retain, At: 59, N: 9999}},
		"\x01\x23\x00\x03\x00\x00\x00\x00\x01\x9e\x8d": {{Op: api.CTU, Area: api.Memory, N: 1}},
		"\x01\x20\x00\x00\x18\x00\x00\x00\x00\x8e\x4e": {{Op: api.OPEN, At: api.LT}},
		"\x04\x01\x02\x00\x00\xff\xff\xff\x80\x01\x03\x00\x00\xff\xff\x80\x00\x01\x04\x00\x00\x80\x00\x00\x00\x01\x05\x00\x00\x00\x00\xff\xff\xd8\x8e": {
			{Op: api.LD, Kind: api.Sint, N: -128}, {Op: api.LD, Kind: api.Int, N: -32768}, {Op: api.LD, Kind: api.Dint, N: -1 << 31}, {Op: api.LD, Kind: api.Uint, N: 65535},
		},
		"\x02\x01\x07\x00\x00\xff\xff\xff\xff\x01\x04\x00\x00\xff\xff\xff\xff\x4c\x81": {
			{Op: api.LD, Kind: api.Dword, N: 1<<32 - 1}, {Op: api.LD, Kind: api.Dint, N: -1},
		},
		"\x03\x01\x06\x01\x02\x00\x00\x00\x00\x06\x01\x04\x3f\x00\x00\x00\x00\x1b\x00\x00\xc8\x00\x00\x00\x00\x54\xf2": {
			{Op: api.LD, Kind: api.Word, Area: api.Input, At: 2}, {Op: api.R, Kind: api.Bool, Area: api.Retain, At: 63}, {Op: api.JMPCN, At: 200},
		},
	} {
		if got, e := Encode(list); got != want || e != api.OK {
			t.Errorf("Encode(%v) = % x, %d, want % x", list, got, e, want)
		}
		if got, e := Decode(want); !slices.Equal(got, list) || e != api.OK {
			t.Errorf("Decode(% x) = %v, %d, want %v", want, got, e, list)
		}
		sum := uint16(want[len(want)-2])<<8 | uint16(want[len(want)-1])
		if got := Stamp(list); got != sum {
			t.Errorf("Stamp(%v) = %x, want %x", list, got, sum)
		}
		checkRight(t, list)
	}
}

func TestNoInstruction(t *testing.T) {
	for _, list := range [][]api.Instr{nil, {}, program(3)[:0]} {
		if s, e := Encode(list); s != "\x00\xe1\xf0" || e != api.OK {
			t.Errorf("Encode(%v) = % x, %d", list, s, e)
		}
		if sum := Stamp(list); sum != 0xE1F0 {
			t.Errorf("Stamp(%v) = %x", list, sum)
		}
	}
	if list, e := Decode("\x00\xe1\xf0"); len(list) != 0 || e != api.OK {
		t.Errorf("Decode of none = %v, %d", list, e)
	}
}

// TestEachInstruction goes through all that may be, but for the numbers between the ends.
func TestEachInstruction(t *testing.T) {
	all := allRight()
	for _, i := range all {
		checkRight(t, []api.Instr{i})
	}
	for at := 0; at < len(all); at += 199 {
		checkRight(t, all[at:min(at+200, len(all))])
	}
}

// TestEachNumber goes through all values of the small kinds, and all numbers of TON and CTU.
func TestEachNumber(t *testing.T) {
	for n := int64(-33000); n < 66000; n++ {
		for _, i := range []api.Instr{{Op: api.LD, Kind: api.Bool, N: n}, {Op: api.LD, Kind: api.Sint, N: n}, {Op: api.LD, Kind: api.Int, N: n}, {Op: api.LD, Kind: api.Uint, N: n}, {Op: api.LD, Kind: api.Word, N: n}, {Op: api.TON, Area: api.Memory, N: n}, {Op: api.CTU, Area: api.Retain, N: n}} {
			checkProgram(t, []api.Instr{i})
		}
	}
	for bit := range 64 {
		for _, near := range []int64{-1, 0, 1} {
			for kind := range 9 {
				n := int64(uint64(1)<<bit) + near
				checkProgram(t, []api.Instr{{Op: api.LD, Kind: kind, N: n}})
				checkProgram(t, []api.Instr{{Op: api.LD, Kind: kind, N: -n}})
			}
		}
	}
}

func TestLengths(t *testing.T) {
	for n := range 203 {
		checkProgram(t, program(n))
	}
	for _, n := range []int{200, 201, 255, 256, 257, 400, 456, 512, 65536, 65537, 1 << 20} {
		checkProgram(t, program(n))
		checkProgram(t, make([]api.Instr, n))
	}
	if s, e := Encode(program(200)); len(s) != 1603 || s[0] != 200 || e != api.OK {
		t.Errorf("Encode of 200: %d bytes, %d", len(s), e)
	}
}

// TestOneThatMayNotBe puts each of some at the first, a middle and the last place: of more than 200 ErrLong comes first.
func TestOneThatMayNotBe(t *testing.T) {
	for _, wrong := range wrongOnes() {
		if may(wrong) {
			t.Fatalf("%v may be", wrong)
		}
		for _, n := range []int{1, 2, 3, 100, 199, 200, 201, 202, 256, 257} {
			for _, at := range []int{0, n / 2, n - 1} {
				list := program(n)
				list[at] = wrong
				want := api.ErrForm
				if n > 200 {
					want = api.ErrLong
				}
				checkWrong(t, list, want)
			}
		}
	}
}

func TestWhatMayNotBe(t *testing.T) {
	for _, wrong := range wrongNear() {
		checkWrong(t, []api.Instr{wrong}, api.ErrForm)
		checkWrong(t, []api.Instr{{Op: api.RET}, wrong}, api.ErrForm)
	}
}

// TestStampOfNought looks for a program whose sum is 0: it has bytes all the same.
func TestStampOfNought(t *testing.T) {
	for n := int64(0); n < 1<<17; n++ {
		list := []api.Instr{{Op: api.LD, Kind: api.Dint, N: n}}
		if Stamp(list) == 0 {
			checkRight(t, list)
			return
		}
	}
	t.Error("none has the sum 0")
}

// TestStampTellsProgramsApart holds that two programs that differ in one place, or in their order, have other sums.
func TestStampTellsProgramsApart(t *testing.T) {
	seen := map[uint16]string{}
	for _, list := range [][]api.Instr{
		nil, {{Op: api.RET}}, {{Op: api.RETC}}, {{Op: api.RET}, {Op: api.RETC}}, {{Op: api.RETC}, {Op: api.RET}}, {{Op: api.RET}, {Op: api.RET}},
		{{Op: api.JMP}}, {{Op: api.JMP, At: 1}}, {{Op: api.LD, Kind: api.Sint}}, {{Op: api.LD, Kind: api.Int}}, {{Op: api.LD, Kind: api.Int, Area: api.Input}}, {{Op: api.LD, Kind: api.Int, N: 1}}, {{Op: api.LD, Kind: api.Int, N: 256}},
	} {
		sum, told := Stamp(list), fmt.Sprint(list)
		if seen[sum] != "" {
			t.Errorf("%s and %s: %x", seen[sum], told, sum)
		}
		seen[sum] = told
	}
}

func TestWhatIsNoProgram(t *testing.T) {
	ret := "\x1c\x00\x00\x00\x00\x00\x00\x00"
	rets := func(n int) string { return strings.Repeat(ret, n) }
	for _, c := range []struct {
		name, s string
		want    api.Errno
	}{
		{"nothing", "", api.ErrCrc},
		{"one byte", "\x00", api.ErrCrc},
		{"one byte 255", "\xff", api.ErrCrc},
		{"two bytes", "ab", api.ErrCrc},
		{"two bytes 0", "\x00\x00", api.ErrCrc},
		{"the sealed empty text", "\xff\xff", api.ErrLen},
		{"three bytes", "\x00\xe1\xf1", api.ErrCrc},
		{"three bytes, and the sum's bytes in the other order", "\x00\xf0\xe1", api.ErrCrc},
		{"three bytes, of a sum that begins with 0", "\x00\x00\x00", api.ErrCrc},
		{"no instruction", "\x00\xe1\xf0", api.OK},
		{"no instruction, sealed twice", sealed("\x00\xe1\xf0"), api.ErrLen},
		{"no sum", "\x01" + ret, api.ErrCrc},
		{"no number of instructions", sealed(ret), api.ErrLen},
		{"none, where one is told", sealed("\x01"), api.ErrLen},
		{"one byte 255 sealed", sealed("\xff"), api.ErrLen},
		{"one, where none is told", sealed("\x00" + ret), api.ErrLen},
		{"one, where two are told", sealed("\x02" + ret), api.ErrLen},
		{"two, where one is told", sealed("\x01" + rets(2)), api.ErrLen},
		{"a byte, where none is told", sealed("\x00\x00"), api.ErrLen},
		{"an instruction cut off", sealed("\x01" + ret[:7]), api.ErrLen},
		{"an instruction cut off to its Op", sealed("\x01" + ret[:1]), api.ErrLen},
		{"a byte too many", sealed("\x01" + ret + "\x00"), api.ErrLen},
		{"200", sealed("\xc8" + rets(200)), api.OK},
		{"199, where 200 are told", sealed("\xc8" + rets(199)), api.ErrLen},
		{"201, where 200 are told", sealed("\xc8" + rets(201)), api.ErrLen},
		{"201", sealed("\xc9" + rets(201)), api.ErrLong},
		{"200, where 201 are told", sealed("\xc9" + rets(200)), api.ErrLen},
		{"255", sealed("\xff" + rets(255)), api.ErrLong},
		{"256, where 0 are told", sealed("\x00" + rets(256)), api.ErrLen},
		{"257, where 1 is told", sealed("\x01" + rets(257)), api.ErrLen},
		{"201, of which the first one may not be", sealed("\xc9" + "\x00" + ret[1:] + rets(200)), api.ErrLong},
		{"201, of which the last one may not be", sealed("\xc9" + rets(200) + "\x00" + ret[1:]), api.ErrLong},
		{"a wrong length, and one that may not be", sealed("\x02" + "\x00" + ret[1:]), api.ErrLen},
		{"a wrong length that says 255, and one that may not be", sealed("\xff" + "\x00" + ret[1:]), api.ErrLen},
		{"a wrong sum of a wrong length", "\x02" + ret + "\x00\x00", api.ErrCrc},
		{"a wrong sum of 201", "\xc9" + rets(201) + "\x00\x00", api.ErrCrc},
		{"a wrong sum of one that may not be", "\x01" + "\x00" + ret[1:] + "\x00\x00", api.ErrCrc},
		{"200, of which the first one may not be", sealed("\xc8" + "\x00" + ret[1:] + rets(199)), api.ErrForm},
		{"200, of which the last one may not be", sealed("\xc8" + rets(199) + "\x00" + ret[1:]), api.ErrForm},
		{"no operation", sealed("\x01\x25\x00\x00\x00\x00\x00\x00\x00"), api.ErrForm},
		{"a RET with a kind", sealed("\x01\x1c\x01\x00\x00\x00\x00\x00\x00"), api.ErrForm},
		{"a RET with an area", sealed("\x01\x1c\x00\x01\x00\x00\x00\x00\x00"), api.ErrForm},
		{"a RET with a place", sealed("\x01\x1c\x00\x00\x01\x00\x00\x00\x00"), api.ErrForm},
		{"a RET with a number", sealed("\x01\x1c\x00\x00\x00\x00\x00\x00\x01"), api.ErrForm},
		{"a RET with a great number", sealed("\x01\x1c\x00\x00\x00\x80\x00\x00\x00"), api.ErrForm},
	} {
		if e := checkDecode(t, c.name, c.s); e != c.want {
			t.Errorf("%s: %d, want %d", c.name, e, c.want)
		}
	}
}

// TestLengthsThatAreTold seals each first byte with texts of as many bytes as are told, one more and one less, and some others.
func TestLengthsThatAreTold(t *testing.T) {
	right, wrong := bare(program(200))[1:], strings.Repeat("\x00", 256*8+9)
	right += right
	for first := range 256 {
		head := string([]byte{byte(first)})
		for _, n := range []int{0, 1, 7, 8, 9, 16, 1599, 1600, 1601, 1608, 2040, 2048, 8*first - 8, 8*first - 1, 8 * first, 8*first + 1, 8*first + 8, first, 9 * first} {
			if n < 0 || n > len(wrong) {
				continue
			}
			want := api.ErrLen
			if n == 8*first && first > 200 {
				want = api.ErrLong
			} else if n == 8*first {
				want = api.OK
			}
			if e := checkDecode(t, "right ones", sealed(head+right[:n])); e != want {
				t.Fatalf("%d told, %d bytes: %d, want %d", first, n, e, want)
			}
			if want == api.OK && n > 0 {
				want = api.ErrForm
			}
			if e := checkDecode(t, "wrong ones", sealed(head+wrong[:n])); e != want {
				t.Fatalf("%d told, %d bytes 0: %d, want %d", first, n, e, want)
			}
		}
	}
}

// TestEachByteOfAProgram puts each number into each byte of the first, a middle and the last instruction, and seals the whole anew.
func TestEachByteOfAProgram(t *testing.T) {
	for _, i := range fewRight() {
		for _, n := range []int{1, 3} {
			list := program(n)
			for _, at := range slices.Compact([]int{0, n / 2, n - 1}) {
				changed := slices.Clone(list)
				changed[at] = i
				eachByte(t, bare(changed), 1+8*at, 9+8*at)
			}
		}
	}
	long := bare(program(200))
	eachByte(t, long, 0, 9)
	eachByte(t, long, 801, 809)
	eachByte(t, long, 1593, 1601)
}

func eachByte(t *testing.T, s string, from, to int) {
	t.Helper()
	for at := from; at < to; at++ {
		for n := range 256 {
			b := []byte(s)
			b[at] = byte(n)
			checkDecode(t, "a byte changed", sealed(string(b)))
		}
	}
}

// TestTheHighestBitOfN holds that of DWORD alone N has no sign.
func TestTheHighestBitOfN(t *testing.T) {
	for _, c := range []struct {
		bytes string
		right map[int]int64 // the kinds of which it is a value
	}{
		{"\x80\x00\x00\x00", map[int]int64{api.Dint: -2147483648, api.Dword: 2147483648}},
		{"\x80\x00\x00\x01", map[int]int64{api.Dint: -2147483647, api.Dword: 2147483649}},
		{"\xff\xff\xff\xff", map[int]int64{api.Sint: -1, api.Int: -1, api.Dint: -1, api.Dword: 4294967295}},
		{"\xff\xff\xff\x80", map[int]int64{api.Sint: -128, api.Int: -128, api.Dint: -128, api.Dword: 4294967168}},
		{"\xff\xff\xff\x7f", map[int]int64{api.Int: -129, api.Dint: -129, api.Dword: 4294967167}},
		{"\xff\xff\x80\x00", map[int]int64{api.Int: -32768, api.Dint: -32768, api.Dword: 4294934528}},
		{"\xff\xff\x7f\xff", map[int]int64{api.Dint: -32769, api.Dword: 4294934527}},
		{"\x7f\xff\xff\xff", map[int]int64{api.Dint: 2147483647, api.Dword: 2147483647}},
		{"\x00\x00\xff\xff", map[int]int64{api.Dint: 65535, api.Uint: 65535, api.Word: 65535, api.Dword: 65535}},
		{"\x00\x00\x00\x80", map[int]int64{api.Int: 128, api.Dint: 128, api.Uint: 128, api.Word: 128, api.Dword: 128}},
	} {
		for kind := range 256 {
			s := sealed("\x01\x01" + string([]byte{byte(kind)}) + "\x00\x00" + c.bytes)
			n, right := c.right[kind]
			if !right {
				checkNone(t, "no value", s, api.ErrForm)
				continue
			}
			list, e := Decode(s)
			if want := (api.Instr{Op: api.LD, Kind: kind, N: n}); e != api.OK || len(list) != 1 || list[0] != want {
				t.Errorf("Decode(% x) = %v, %d, want %v", s, list, e, want)
			}
		}
	}
	// What has no kind has a sign, and below 0 there is no number of TON.
	checkNone(t, "TON", sealed("\x01\x22\x00\x03\x00\xff\xff\xff\xff"), api.ErrForm)
	checkNone(t, "TON", sealed("\x01\x22\x00\x03\x00\x80\x00\x00\x01"), api.ErrForm)
}

// TestPrograms draws programs, right ones and others, and holds them against the second way.
func TestPrograms(t *testing.T) {
	d := dice(1)
	all, wrong := allRight(), wrongNear()
	for range 3000 {
		list := make([]api.Instr, d.below(12))
		if d.below(8) == 0 {
			list = make([]api.Instr, 195+d.below(9))
		}
		for at := range list {
			list[at] = drawn(&d, all)
		}
		if d.below(3) == 0 && len(list) > 0 {
			list[d.below(len(list))] = anyOf(&d, wrong)
		}
		checkProgram(t, list)
	}
}

// drawn is one of all, a DINT's or a DWORD's sometimes with any number.
func drawn(d *dice, all []api.Instr) api.Instr {
	i := anyOf(d, all)
	if i.Area != 0 {
		return i
	}
	switch i.Kind {
	case api.Dint:
		i.N = int64(int32(d.next()))
	case api.Dword:
		i.N = int64(d.next())
	}
	if !may(i) { // CONV has a kind, and no number
		i.N = 0
	}
	return i
}

// TestTexts draws texts, and seals most of them, with a first byte that tells how many bytes they have.
func TestTexts(t *testing.T) {
	d := dice(2)
	all := allRight()
	seen := map[api.Errno]int{}
	for range 60000 {
		n := d.below(5)
		s := bare(make([]api.Instr, n))[:1]
		for range n {
			i := []byte(bare([]api.Instr{drawn(&d, all)})[1:])
			if d.below(4) == 0 {
				i[d.below(8)] = byte(d.next() >> 24)
			}
			s += string(i)
		}
		switch d.below(12) {
		case 0:
			s = d.bytes(d.below(20))
		case 1:
			s = s[:d.below(len(s)+1)]
		case 2:
			s += d.bytes(d.below(9))
		}
		if d.below(12) > 0 {
			s = sealed(s)
		}
		seen[checkDecode(t, "drawn", s)]++
	}
	for _, e := range []api.Errno{api.OK, api.ErrCrc, api.ErrLen, api.ErrForm} {
		if seen[e] < 1000 {
			t.Errorf("%d were drawn of error %d", seen[e], e)
		}
	}
}

// TestShortTexts goes through all texts of up to two bytes, and through those of three with the sum right, or nearly so.
func TestShortTexts(t *testing.T) {
	checkDecode(t, "short", "")
	for a := range 256 {
		s := string([]byte{byte(a)})
		checkDecode(t, "short", s)
		checkDecode(t, "short", sealed(s))
		for b := range 256 {
			checkDecode(t, "short", s+string([]byte{byte(b)}))
			checkDecode(t, "short", s+string([]byte{byte(b)})+sealed(s)[2:])
			checkDecode(t, "short", sealed(s)[:2]+string([]byte{byte(b)}))
		}
	}
}

// turned is s with the bits of a pattern turned from that bit on, its highest one first, and whether that turned something.
func turned(s string, at int, pattern uint16) (string, bool) {
	b := []byte(s)
	for n := range 16 {
		if bit := at + n; bit < len(b)*8 && pattern>>(15-n)&1 == 1 {
			b[bit/8] ^= 128 >> (bit % 8)
		}
	}
	return string(b), string(b) != s
}

func encoded(t *testing.T, list []api.Instr) string {
	t.Helper()
	s, e := Encode(list)
	if e != api.OK {
		t.Fatalf("Encode(%v): %d", list, e)
	}
	return s
}

func TestBursts(t *testing.T) {
	for n, every := range map[int]int{0: 1, 1: 37, 2: 149, 5: 997, 20: 9973} {
		s := encoded(t, program(n))
		for at := range len(s) * 8 {
			for pattern := 1 + at%every; pattern <= 0xFFFF; pattern += every {
				burst(t, s, at, uint16(pattern))
			}
			for bit := range 16 {
				burst(t, s, at, 1<<bit)
				burst(t, s, at, 0xFFFF<<bit)
				burst(t, s, at, 0x8000|1<<bit)
			}
		}
	}
	s := encoded(t, program(200))
	for at := range len(s) * 8 {
		burst(t, s, at, 0x8000)
		burst(t, s, at, 0x8000|uint16(at*40503>>4))
	}
}

func burst(t *testing.T, s string, at int, pattern uint16) {
	t.Helper()
	if hurt, changed := turned(s, at, pattern); changed {
		checkNone(t, "a burst", hurt, api.ErrCrc)
	}
}

// TestCutOff cuts programs off at each length, and some at each length from their beginning. A part of them may be sealed as if by chance.
func TestCutOff(t *testing.T) {
	for _, n := range []int{0, 1, 2, 3, 17, 200} {
		s := encoded(t, program(n))
		for at := range len(s) {
			if e := checkDecode(t, "cut off", s[:at]); e != api.ErrCrc && e != api.ErrLen {
				t.Fatalf("of %d, the first %d bytes: %d", n, at, e)
			}
			if n < 4 && at > 0 {
				checkDecode(t, "cut off ahead", s[at:])
			}
		}
	}
	for _, i := range allRight() {
		s := encoded(t, []api.Instr{i})
		for at := range len(s) {
			if list, e := Decode(s[:at]); len(list) != 0 || e != api.ErrCrc && e != api.ErrLen {
				t.Fatalf("of %v, the first %d bytes: %v, %d", i, at, list, e)
			}
		}
	}
}

// TestMoreBehind puts bytes behind programs, also such that the whole is sealed.
func TestMoreBehind(t *testing.T) {
	d := dice(3)
	for _, n := range []int{0, 1, 2, 3, 17, 200} {
		s := encoded(t, program(n))
		behind := []string{"\x00", "\x00\x00", "\x00\x00\x00", "\x00\xe1\xf0", s, s[len(s)-2:], sealed(s)[len(s):], sealed(s + s[1:])[len(s):], sealed(s + "\x00\x00\x00\x00\x00\x00\x00\x00")[len(s):], strings.Repeat("\x00", 256*8)}
		for b := range 256 {
			behind = append(behind, string([]byte{byte(b)}))
		}
		for range 200 {
			behind = append(behind, d.bytes(1+d.below(30)))
		}
		for _, more := range behind {
			if e := checkDecode(t, "more behind", s+more); e != api.ErrCrc && e != api.ErrLen {
				t.Fatalf("of %d, and % x behind: %d", n, more, e)
			}
		}
		// A sum is 0 of what is sealed, so that two bytes 0 behind it seal it once more.
		checkNone(t, "sealed once more", s+"\x00\x00", api.ErrLen)
	}
}

// TestWhatIsHandedInStays looks at what lies behind the slice's end, too.
func TestWhatIsHandedInStays(t *testing.T) {
	for _, n := range []int{0, 1, 2, 199, 200, 201, 300} {
		for _, wrong := range []bool{false, true} {
			all := program(310)
			if wrong && n > 0 {
				all[n-1] = api.Instr{Op: api.RET, N: 1}
			}
			kept := slices.Clone(all)
			Encode(all[:n])
			Stamp(all[:n])
			if !slices.Equal(all, kept) {
				t.Errorf("a program of %d was changed", n)
			}
		}
	}
}

// TestWhatIsAnsweredStays changes what was handed in, and one answer, calls other things, and looks at the other answers.
func TestWhatIsAnsweredStays(t *testing.T) {
	list := program(40)
	want := sealed(bare(list))
	s := encoded(t, list)
	first, _ := Decode(s)
	second, _ := Decode(s)
	for at := range list {
		list[at] = api.Instr{Op: api.CLOSE}
		first[at] = api.Instr{Op: -1}
	}
	first = append(first[:20], api.Instr{Op: -2}, api.Instr{Op: -3})
	if !slices.Equal(second, program(40)) {
		t.Error("two answers share their memory")
	}
	for _, other := range [][]api.Instr{list, program(3), program(200), program(201), {{}}} {
		bytes, _ := Encode(other)
		Stamp(other)
		Decode(bytes)
		Decode(sealed(bare(other)))
		if s != want || !slices.Equal(second, program(40)) {
			t.Error("an answer was changed by a later call")
		}
	}
	third, _ := Decode(s)
	if len(first) != 22 || first[21].Op != -3 || !slices.Equal(third, program(40)) {
		t.Error("what was answered once more shares its memory, or is something else")
	}
}

// TestAnyOrder asks the same again, with other things between.
func TestAnyOrder(t *testing.T) {
	d := dice(4)
	right := [][]api.Instr{nil, program(1), program(2), program(9), program(200)}
	wrong := [][]api.Instr{{{}}, program(201), append(program(5), api.Instr{Op: 99})}
	for range 4000 {
		switch d.below(3) {
		case 0:
			checkRight(t, anyOf(&d, right))
		case 1:
			checkProgram(t, anyOf(&d, wrong))
		default:
			checkDecode(t, "between", sealed(d.bytes(d.below(12))))
		}
	}
}

// TestLongTexts holds that no length is too much.
func TestLongTexts(t *testing.T) {
	for _, n := range []int{1606, 2042, 2043, 2044, 65536, 1 << 20, 1<<22 + 3} {
		for _, b := range []string{"\x00", "\x01", "\xc8", "\xff"} {
			s := strings.Repeat(b, n)
			checkDecode(t, "a long text", s) // one of them is sealed, as it happens
			checkNone(t, "a long text, sealed", sealed(s), api.ErrLen)
		}
	}
}
