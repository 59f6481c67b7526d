package iec

import (
	"fmt"
	"math"
	"math/big"
	"slices"
	"strconv"
	"strings"
	"testing"

	"fugleman/api"
)

// trait is what the chapter says of a kind.
type trait struct {
	kind        int
	name        string
	size        int
	least, most int64
	logic       bool
}

func traits() [7]trait {
	return [7]trait{
		{api.Bool, "BOOL", 1, 0, 1, true},
		{api.Sint, "SINT", 1, -128, 127, false},
		{api.Int, "INT", 2, -32768, 32767, false},
		{api.Dint, "DINT", 4, -2147483648, 2147483647, false},
		{api.Uint, "UINT", 2, 0, 65535, false},
		{api.Word, "WORD", 2, 0, 65535, true},
		{api.Dword, "DWORD", 4, 0, 4294967295, true},
	}
}

// traitOf tells what the chapter says of a kind, and whether it is one.
func traitOf(kind int) (trait, bool) {
	for _, tr := range traits() {
		if tr.kind == kind {
			return tr, true
		}
	}
	return trait{}, false
}

// noKinds are numbers that are no kinds, many of them with a kind in their lowest bits.
func noKinds() []int {
	return []int{
		math.MinInt, math.MinInt + 1, math.MinInt + 3, -1<<32 + 5, -1 << 32, -1 << 31, -65536 + 7, -256 + 2, -16, -9, -8, -7, -6, -5, -4, -3, -2, -1,
		0, 8, 9, 10, 15, 16, 17, 23, 33, 66, 128, 129, 256, 257, 263, 65536 + 4, 1<<31 - 1, 1 << 31, 1<<32 + 1, 1<<32 + 6, math.MaxInt - 8, math.MaxInt - 1, math.MaxInt,
	}
}

// kinds are all kinds, and noKinds.
func kinds() []int {
	list := noKinds()
	for _, tr := range traits() {
		list = append(list, tr.kind)
	}
	return list
}

func arithmeticOps() []int {
	return []int{api.ADD, api.SUB, api.MUL, api.DIV, api.MOD}
}

// logicOps are those of two values: all but NOT.
func logicOps() []int {
	return []int{api.AND, api.OR, api.XOR, api.ANDN, api.ORN, api.XORN}
}

func orderOps() []int {
	return []int{api.GT, api.GE, api.EQ, api.NE, api.LE, api.LT}
}

// otherOps are operations of no values, NOT aside, and numbers that are no operations, many of them with one in their lowest bits.
func otherOps() []int {
	return []int{
		api.LD, api.LDN, api.ST, api.STN, api.S, api.R, api.JMP, api.JMPC, api.JMPCN, api.RET, api.RETC, api.RETCN, api.CONV, api.OPEN, api.CLOSE, api.TON, api.CTU, api.TRIG,
		math.MinInt, math.MinInt + 14, math.MinInt + 1, -1<<32 + 7, -1 << 32, -65536 + 19, -256 + 14, -32, -24, -19, -18, -14, -13, -7, -1,
		0, 37, 38, 39, 46, 50, 51, 64, 71, 78, 83, 128 + 7, 256 + 7, 256 + 14, 256 + 19, 65536 + 14, 1 << 31, 1<<32 + 7, 1<<32 + 14, 1<<32 + 24, math.MaxInt - 13, math.MaxInt - 1, math.MaxInt,
	}
}

func allOps() []int {
	return slices.Concat(arithmeticOps(), logicOps(), orderOps(), []int{api.NOT}, otherOps())
}

// edges are numbers that lie at the ends of kinds, beside them, near powers of 2, and some others, rising and each once.
func edges() []int64 {
	list := []int64{0, 1, 2, 3, 5, 7, 100, 181, 182, 255, 300, 1000, 46340, 46341, 0x1234, 0x55AA, 0xF0F0, 0x12345678, 0xAAAA5555, 1e15, math.MaxInt64}
	for _, n := range []int{4, 7, 8, 9, 15, 16, 17, 24, 31, 32, 33, 40, 62} {
		list = append(list, 1<<n-2, 1<<n-1, 1<<n, 1<<n+1, 1<<n+2)
	}
	for _, v := range list {
		list = append(list, -v, -v-1)
	}
	slices.Sort(list)
	return slices.Compact(list)
}

// fewEdges are numbers within and beyond each kind.
func fewEdges() []int64 {
	return []int64{math.MinInt64, -1 << 32, -1<<31 - 1, -1 << 31, -32769, -32768, -129, -128, -1, 0, 1, 2, 127, 128, 255, 256, 32767, 32768, 65535, 65536, 1<<31 - 1, 1 << 31, 1<<32 - 1, 1 << 32, math.MaxInt64}
}

// edgesOf are the edges that are values of a kind.
func edgesOf(tr trait) []int64 {
	list := []int64{}
	for _, v := range edges() {
		if tr.least <= v && v <= tr.most {
			list = append(list, v)
		}
	}
	return list
}

// dice are numbers in no order, always the same ones.
type dice uint64

func (d *dice) next() uint32 {
	*d = *d*6364136223846793005 + 1442695040888963407
	return uint32(*d >> 32)
}

func (d *dice) below(n int) int {
	return int(uint64(d.next()) * uint64(n) >> 32)
}

// number is any of eight bytes.
func (d *dice) number() int64 {
	return int64(uint64(d.next())<<32 | uint64(d.next()))
}

// valueOf is any value of a kind.
func (d *dice) valueOf(tr trait) int64 {
	return tr.least + int64(uint64(d.number())%uint64(tr.most-tr.least+1))
}

// The plain ones below go by the words of the chapter another way: by numbers that have no end, bit by bit, and by digits.

// plainBring brings a number into a kind.
func plainBring(tr trait, n *big.Int) int64 {
	if tr.kind == api.Bool {
		return int64(n.CmpAbs(big.NewInt(0)))
	}
	span := new(big.Int).Exp(big.NewInt(2), big.NewInt(int64(8*tr.size)), nil)
	least := big.NewInt(tr.least)
	above := new(big.Int).Mod(new(big.Int).Sub(n, least), span)
	return above.Add(above, least).Int64()
}

func plainWrap(kind int, v int64) int64 {
	tr, ok := traitOf(kind)
	if !ok {
		return 0
	}
	return plainBring(tr, big.NewInt(v))
}

func plainIs(kind int, v int64) bool {
	tr, ok := traitOf(kind)
	return ok && tr.least <= v && v <= tr.most
}

func plainMay(op, kind int) bool {
	tr, ok := traitOf(kind)
	if !ok {
		return false
	}
	if slices.Contains(orderOps(), op) {
		return true
	}
	if tr.logic {
		return op == api.NOT || slices.Contains(logicOps(), op)
	}
	return slices.Contains(arithmeticOps(), op)
}

// plainArithmetic tells what an operation makes of two numbers, without any end.
func plainArithmetic(op int, x, y *big.Int) *big.Int {
	answer := new(big.Int)
	switch op {
	case api.ADD:
		return answer.Add(x, y)
	case api.SUB:
		return answer.Sub(x, y)
	case api.MUL:
		return answer.Mul(x, y)
	}
	if y.Sign() == 0 {
		return answer
	}
	// The quotient of the numbers without their signs is cut off at its point, and has its sign back behind that: so it goes towards 0.
	answer.Div(new(big.Int).Abs(x), new(big.Int).Abs(y))
	if x.Sign()*y.Sign() < 0 {
		answer.Neg(answer)
	}
	if op == api.MOD {
		return new(big.Int).Sub(x, answer.Mul(answer, y))
	}
	return answer
}

// plainBit tells what an operation makes of two bits.
func plainBit(op int, a, b bool) bool {
	switch op {
	case api.AND:
		return a && b
	case api.OR:
		return a || b
	case api.XOR:
		return a != b
	case api.ANDN:
		return a && !b
	case api.ORN:
		return a || !b
	}
	return a == b
}

// bitsOf tells how many bits a value of a kind has.
func bitsOf(tr trait) int {
	if tr.kind == api.Bool {
		return 1
	}
	return 8 * tr.size
}

func plainLogic(op int, tr trait, a, b int64) int64 {
	sum, power := int64(0), int64(1)
	for range bitsOf(tr) {
		if plainBit(op, a%2 == 1, b%2 == 1) {
			sum += power
		}
		a, b, power = a/2, b/2, power*2
	}
	return sum
}

func plainOrder(op int, a, b int64) int64 {
	// Of each operation, in order, what is told where a is less, the same, more.
	rows := []string{"001", "011", "010", "101", "110", "100"}
	side := big.NewInt(a).Cmp(big.NewInt(b))
	return int64(rows[slices.Index(orderOps(), op)][side+1] - '0')
}

func plainDo(op, kind int, a, b int64) (int64, api.Errno) {
	tr, _ := traitOf(kind)
	switch {
	case op == api.NOT || !plainMay(op, kind):
		return 0, api.ErrType
	case !plainIs(kind, a) || !plainIs(kind, b):
		return 0, api.ErrArg
	case slices.Contains(arithmeticOps(), op):
		return plainBring(tr, plainArithmetic(op, big.NewInt(a), big.NewInt(b))), api.OK
	case slices.Contains(logicOps(), op):
		return plainLogic(op, tr, a, b), api.OK
	}
	return plainOrder(op, a, b), api.OK
}

func plainNot(kind int, v int64) int64 {
	tr, _ := traitOf(kind)
	if !tr.logic || !plainIs(kind, v) {
		return 0
	}
	return tr.most - v
}

// twin is an area, written as two digits of base 16 for each byte.
type twin struct {
	digits string
}

func (w *twin) place(at, kind int) (trait, bool) {
	tr, ok := traitOf(kind)
	if !ok || at < 0 || at > len(w.digits)/2 {
		return trait{}, false
	}
	return tr, len(w.digits[2*at:]) >= 2*tr.size
}

func (w *twin) get(at, kind int) (int64, bool) {
	tr, ok := w.place(at, kind)
	if !ok {
		return 0, false
	}
	n, good := new(big.Int).SetString(w.digits[2*at:2*(at+tr.size)], 16)
	if !good {
		panic("no digits: " + w.digits)
	}
	return plainBring(tr, n), true
}

func (w *twin) put(at, kind int, v int64) bool {
	tr, ok := w.place(at, kind)
	if !ok {
		return false
	}
	value := plainWrap(kind, v)
	if value < 0 {
		value += int64(1) << (8 * tr.size)
	}
	written := fmt.Sprintf("%0*X", 2*tr.size, value)
	w.digits = w.digits[:2*at] + written + w.digits[2*(at+tr.size):]
	return true
}

// twinOf tells an area as a twin.
func twinOf(area string) *twin {
	return &twin{fmt.Sprintf("%X", area)}
}

// sameDo holds an answer of Do against the plain one.
func sameDo(t *testing.T, op, kind int, a, b int64) {
	t.Helper()
	want, wantE := plainDo(op, kind, a, b)
	if v, e := Do(op, kind, a, b); v != want || e != wantE {
		t.Fatalf("Do(%d, %d, %d, %d) = %d, %d, want %d, %d", op, kind, a, b, v, e, want, wantE)
	}
}

func TestTheExamples(t *testing.T) {
	for _, c := range []struct {
		op, kind   int
		a, b, want int64
	}{
		{api.ADD, api.Sint, 127, 1, -128},
		{api.DIV, api.Int, -7, 2, -3},
		{api.MOD, api.Int, -7, 2, -1},
	} {
		if v, e := Do(c.op, c.kind, c.a, c.b); v != c.want || e != api.OK {
			t.Errorf("Do(%d, %d, %d, %d) = %d, %d, want %d", c.op, c.kind, c.a, c.b, v, e, c.want)
		}
	}
}

func TestSizeAndName(t *testing.T) {
	for _, tr := range traits() {
		if n := Size(tr.kind); n != tr.size {
			t.Errorf("Size(%s) = %d, want %d", tr.name, n, tr.size)
		}
		if name := Name(tr.kind); name != tr.name {
			t.Errorf("Name(%s) = %q", tr.name, name)
		}
	}
	for _, kind := range noKinds() {
		if n, name := Size(kind), Name(kind); n != 0 || name != "" {
			t.Errorf("of %d: Size %d, Name %q", kind, n, name)
		}
	}
	for kind := -1000; kind <= 1000; kind++ {
		tr, _ := traitOf(kind)
		if Size(kind) != tr.size || Name(kind) != tr.name {
			t.Errorf("of %d: Size %d, Name %q", kind, Size(kind), Name(kind))
		}
	}
}

// named holds what Named answers against the names that there are.
func named(t *testing.T, name string) {
	t.Helper()
	want := 0
	for _, tr := range traits() {
		if tr.name == name {
			want = tr.kind
		}
	}
	if kind, ok := Named(name); kind != want || ok != (want > 0) {
		t.Errorf("Named(%q) = %d, %v, want %d", name, kind, ok, want)
	}
}

func TestNamed(t *testing.T) {
	for _, c := range []struct {
		name string
		kind int
	}{
		{"BOOL", 1}, {"SINT", 2}, {"INT", 3}, {"DINT", 4}, {"UINT", 5}, {"WORD", 6}, {"DWORD", 7},
	} {
		if kind, ok := Named(c.name); kind != c.kind || !ok {
			t.Errorf("Named(%q) = %d, %v", c.name, kind, ok)
		}
	}
	for _, name := range []string{
		"", " ", "\x00", "bool", "sint", "int", "dint", "uint", "word", "dword", "Bool", "Int", "iNT", "INt", "dWORD", "DWORd",
		" INT", "INT ", "I NT", "INT\n", "INT\x00", "\tINT", "INT#", "%INT", ":INT", "INT#1", "BOOLEAN", "INTEGER", "WORDS", "SI", "IN", "I", "D", "W", "BOO", "OOL", "NT", "ORD", "DWOR",
		"LINT", "USINT", "UDINT", "ULINT", "BYTE", "LWORD", "REAL", "LREAL", "TIME", "STRING", "NONE", "?", "0", "1", "3", "7", "8", "-1", "INT\xff", "\u0406NT",
		strings.Repeat("INT", 1000), strings.Repeat("x", 1<<20),
	} {
		if kind, ok := Named(name); kind != 0 || ok {
			t.Errorf("Named(%q) = %d, %v", name, kind, ok)
		}
	}
}

// TestNamedOfWhatIsNearlyAName takes, turns and adds one byte at each place of each name, and puts names together.
func TestNamedOfWhatIsNearlyAName(t *testing.T) {
	for _, tr := range traits() {
		for at := range len(tr.name) + 1 {
			named(t, tr.name[:at])
			named(t, tr.name[at:])
			for b := range 256 {
				named(t, tr.name[:at]+string([]byte{byte(b)})+tr.name[at:])
				if at < len(tr.name) {
					named(t, tr.name[:at]+string([]byte{byte(b)})+tr.name[at+1:])
				}
			}
			if at < len(tr.name) {
				named(t, tr.name[:at]+tr.name[at+1:])
				named(t, tr.name[:at]+strings.ToLower(tr.name[at:]))
			}
		}
		for _, other := range traits() {
			named(t, tr.name+other.name)
			named(t, tr.name+" "+other.name)
		}
	}
}

// TestNamedOfAllShortTexts goes through all texts of up to five letters out of those that names have.
func TestNamedOfAllShortTexts(t *testing.T) {
	texts, found := []string{""}, 0
	for range 5 {
		longer := []string{}
		for _, text := range texts {
			for _, letter := range []string{"B", "D", "I", "L", "N", "O", "R", "S", "T", "U", "W"} {
				named(t, text+letter)
				if _, ok := Named(text + letter); ok {
					found++
				}
				longer = append(longer, text+letter)
			}
		}
		texts = longer
	}
	if found != 7 {
		t.Errorf("%d names", found)
	}
}

func TestIsAndWrap(t *testing.T) {
	for _, c := range []struct {
		kind    int
		v, into int64
	}{
		{api.Bool, 0, 0}, {api.Bool, 1, 1}, {api.Bool, 2, 1}, {api.Bool, -1, 1}, {api.Bool, -2, 1}, {api.Bool, 255, 1}, {api.Bool, 256, 1}, {api.Bool, 1 << 16, 1}, {api.Bool, 1 << 32, 1}, {api.Bool, 1 << 62, 1}, {api.Bool, math.MinInt64, 1}, {api.Bool, math.MaxInt64, 1},
		{api.Sint, 0, 0}, {api.Sint, 1, 1}, {api.Sint, 2, 2}, {api.Sint, -1, -1}, {api.Sint, 127, 127}, {api.Sint, 128, -128}, {api.Sint, -128, -128}, {api.Sint, -129, 127}, {api.Sint, 255, -1}, {api.Sint, 256, 0}, {api.Sint, 257, 1}, {api.Sint, 384, -128}, {api.Sint, -256, 0}, {api.Sint, 1 << 32, 0}, {api.Sint, math.MinInt64, 0}, {api.Sint, math.MaxInt64, -1},
		{api.Int, 0, 0}, {api.Int, -1, -1}, {api.Int, 32767, 32767}, {api.Int, 32768, -32768}, {api.Int, -32768, -32768}, {api.Int, -32769, 32767}, {api.Int, 65535, -1}, {api.Int, 65536, 0}, {api.Int, 65538, 2}, {api.Int, 98304, -32768}, {api.Int, 1<<32 + 5, 5}, {api.Int, math.MinInt64, 0}, {api.Int, math.MaxInt64, -1},
		{api.Dint, 0, 0}, {api.Dint, -1, -1}, {api.Dint, 1<<31 - 1, 1<<31 - 1}, {api.Dint, 1 << 31, -1 << 31}, {api.Dint, -1 << 31, -1 << 31}, {api.Dint, -1<<31 - 1, 1<<31 - 1}, {api.Dint, 1<<32 - 1, -1}, {api.Dint, 1 << 32, 0}, {api.Dint, 1<<32 + 2, 2}, {api.Dint, 1 << 62, 0}, {api.Dint, math.MinInt64, 0}, {api.Dint, math.MaxInt64, -1},
		{api.Uint, 0, 0}, {api.Uint, 1, 1}, {api.Uint, -1, 65535}, {api.Uint, 65535, 65535}, {api.Uint, 65536, 0}, {api.Uint, 65537, 1}, {api.Uint, -65536, 0}, {api.Uint, -32768, 32768}, {api.Uint, 1 << 31, 0}, {api.Uint, math.MinInt64, 0}, {api.Uint, math.MaxInt64, 65535},
		{api.Word, 0, 0}, {api.Word, 1, 1}, {api.Word, -1, 65535}, {api.Word, 65535, 65535}, {api.Word, 65536, 0}, {api.Word, 0x12345, 0x2345}, {api.Word, -2, 0xFFFE}, {api.Word, math.MinInt64, 0}, {api.Word, math.MaxInt64, 65535},
		{api.Dword, 0, 0}, {api.Dword, 1, 1}, {api.Dword, -1, 1<<32 - 1}, {api.Dword, 1<<32 - 1, 1<<32 - 1}, {api.Dword, 1 << 32, 0}, {api.Dword, 1 << 31, 1 << 31}, {api.Dword, -1 << 31, 1 << 31}, {api.Dword, 0x123456789A, 0x3456789A}, {api.Dword, math.MinInt64, 0}, {api.Dword, math.MaxInt64, 1<<32 - 1},
		{0, 0, 0}, {0, 1, 0}, {0, 5, 0}, {8, 1, 0}, {-1, -1, 0}, {math.MinInt, math.MinInt64, 0}, {math.MaxInt, math.MaxInt64, 0},
	} {
		if v := Wrap(c.kind, c.v); v != c.into {
			t.Errorf("Wrap(%d, %d) = %d, want %d", c.kind, c.v, v, c.into)
		}
		if is := Is(c.kind, c.v); is != (Size(c.kind) > 0 && c.v == c.into) {
			t.Errorf("Is(%d, %d) = %v", c.kind, c.v, is)
		}
	}
}

func TestIsAtTheEndsOfKinds(t *testing.T) {
	for _, tr := range traits() {
		for v, want := range map[int64]bool{
			tr.least: true, tr.most: true, tr.least - 1: false, tr.most + 1: false, 0: true, 1: true, -1: tr.least < 0, 2: tr.most > 1, math.MinInt64: false, math.MaxInt64: false,
		} {
			if Is(tr.kind, v) != want {
				t.Errorf("Is(%s, %d) = %v", tr.name, v, !want)
			}
		}
	}
}

func TestIsAndWrapHeldAgainstNumbersWithoutEnd(t *testing.T) {
	d, list := dice(1), edges()
	for range 2000 {
		list = append(list, d.number(), d.number()>>d.below(64))
	}
	for v := int64(-70000); v <= 70000; v += 7 {
		list = append(list, v)
	}
	for _, kind := range kinds() {
		for _, v := range list {
			if got, want := Wrap(kind, v), plainWrap(kind, v); got != want {
				t.Fatalf("Wrap(%d, %d) = %d, want %d", kind, v, got, want)
			}
			if got, want := Is(kind, v), plainIs(kind, v); got != want {
				t.Fatalf("Is(%d, %d) = %v", kind, v, got)
			}
		}
	}
}

// TestWhatIsBroughtIntoAKindIsOfIt, and what is of it is brought into it as it is.
func TestWhatIsBroughtIntoAKindIsOfIt(t *testing.T) {
	d := dice(2)
	for _, tr := range traits() {
		for _, v := range edges() {
			if !Is(tr.kind, Wrap(tr.kind, v)) || Wrap(tr.kind, Wrap(tr.kind, v)) != Wrap(tr.kind, v) {
				t.Errorf("Wrap(%s, %d) = %d", tr.name, v, Wrap(tr.kind, v))
			}
		}
		for range 2000 {
			if v := d.valueOf(tr); !Is(tr.kind, v) || Wrap(tr.kind, v) != v {
				t.Errorf("%s: %d is brought to %d", tr.name, v, Wrap(tr.kind, v))
			}
		}
	}
}

func TestMay(t *testing.T) {
	// Of each operation the kinds, in order: BOOL, SINT, INT, DINT, UINT, WORD, DWORD.
	for op, row := range map[int]string{
		api.LD: "-------", api.LDN: "-------", api.ST: "-------", api.STN: "-------", api.S: "-------", api.R: "-------",
		api.AND: "y----yy", api.OR: "y----yy", api.XOR: "y----yy", api.ANDN: "y----yy", api.ORN: "y----yy", api.XORN: "y----yy", api.NOT: "y----yy",
		api.ADD: "-yyyy--", api.SUB: "-yyyy--", api.MUL: "-yyyy--", api.DIV: "-yyyy--", api.MOD: "-yyyy--",
		api.GT: "yyyyyyy", api.GE: "yyyyyyy", api.EQ: "yyyyyyy", api.NE: "yyyyyyy", api.LE: "yyyyyyy", api.LT: "yyyyyyy",
		api.JMP: "-------", api.JMPC: "-------", api.JMPCN: "-------", api.RET: "-------", api.RETC: "-------", api.RETCN: "-------",
		api.CONV: "-------", api.OPEN: "-------", api.CLOSE: "-------", api.TON: "-------", api.CTU: "-------", api.TRIG: "-------",
		0: "-------", -1: "-------", 37: "-------", math.MinInt: "-------", math.MaxInt: "-------",
	} {
		for i, tr := range traits() {
			if May(op, tr.kind) != (row[i] == 'y') {
				t.Errorf("May(%d, %s) = %v", op, tr.name, row[i] != 'y')
			}
		}
	}
}

func TestMayOfAllNumbers(t *testing.T) {
	ops := allOps()
	for op := -100; op <= 300; op++ {
		ops = append(ops, op)
	}
	for _, op := range ops {
		for _, kind := range kinds() {
			if got, want := May(op, kind), plainMay(op, kind); got != want {
				t.Errorf("May(%d, %d) = %v", op, kind, got)
			}
		}
	}
}

// reckoning is an operation of two values, and what it makes of them.
type reckoning struct {
	op         int
	a, b, want int64
}

func does(t *testing.T, kind int, list []reckoning) {
	t.Helper()
	for _, c := range list {
		if v, e := Do(c.op, kind, c.a, c.b); v != c.want || e != api.OK {
			t.Errorf("Do(%d, %s, %d, %d) = %d, %d, want %d", c.op, Name(kind), c.a, c.b, v, e, c.want)
		}
	}
}

func TestDoOfSint(t *testing.T) {
	does(t, api.Sint, []reckoning{
		{api.ADD, 1, 2, 3}, {api.ADD, -1, 1, 0}, {api.ADD, 127, 1, -128}, {api.ADD, 1, 127, -128}, {api.ADD, -128, -1, 127}, {api.ADD, 127, 127, -2}, {api.ADD, -128, -128, 0}, {api.ADD, -128, 127, -1},
		{api.SUB, 5, 3, 2}, {api.SUB, 3, 5, -2}, {api.SUB, -128, 1, 127}, {api.SUB, 127, -1, -128}, {api.SUB, 0, -128, -128}, {api.SUB, -128, -128, 0}, {api.SUB, 127, -128, -1}, {api.SUB, -128, 127, 1},
		{api.MUL, 6, 7, 42}, {api.MUL, -6, 7, -42}, {api.MUL, -6, -7, 42}, {api.MUL, 127, 127, 1}, {api.MUL, -128, -128, 0}, {api.MUL, -128, -1, -128}, {api.MUL, 16, 8, -128}, {api.MUL, 15, 17, -1}, {api.MUL, -128, 127, -128}, {api.MUL, 100, 0, 0},
		{api.DIV, 7, 2, 3}, {api.DIV, -7, 2, -3}, {api.DIV, 7, -2, -3}, {api.DIV, -7, -2, 3}, {api.DIV, 1, 2, 0}, {api.DIV, -1, 2, 0}, {api.DIV, 1, -2, 0}, {api.DIV, -6, 3, -2}, {api.DIV, -128, -1, -128}, {api.DIV, 127, -1, -127}, {api.DIV, -128, 1, -128}, {api.DIV, -128, 127, -1}, {api.DIV, 127, -128, 0}, {api.DIV, -128, -128, 1}, {api.DIV, 0, -5, 0},
		{api.DIV, 5, 0, 0}, {api.DIV, -5, 0, 0}, {api.DIV, 0, 0, 0}, {api.DIV, 127, 0, 0}, {api.DIV, -128, 0, 0},
		{api.MOD, 7, 2, 1}, {api.MOD, -7, 2, -1}, {api.MOD, 7, -2, 1}, {api.MOD, -7, -2, -1}, {api.MOD, 1, 2, 1}, {api.MOD, -1, 2, -1}, {api.MOD, -6, 3, 0}, {api.MOD, -128, -1, 0}, {api.MOD, 127, -1, 0}, {api.MOD, -128, 127, -1}, {api.MOD, 127, -128, 127}, {api.MOD, -128, -128, 0}, {api.MOD, -127, -128, -127}, {api.MOD, 0, -5, 0},
		{api.MOD, 5, 0, 0}, {api.MOD, -5, 0, 0}, {api.MOD, 0, 0, 0}, {api.MOD, 127, 0, 0}, {api.MOD, -128, 0, 0},
	})
}

func TestDoOfInt(t *testing.T) {
	does(t, api.Int, []reckoning{
		{api.ADD, 127, 1, 128}, {api.ADD, 32767, 1, -32768}, {api.ADD, -32768, -1, 32767}, {api.ADD, 32767, 32767, -2}, {api.ADD, -32768, -32768, 0},
		{api.SUB, -128, 1, -129}, {api.SUB, -32768, 1, 32767}, {api.SUB, 32767, -1, -32768}, {api.SUB, 0, -32768, -32768},
		{api.MUL, 181, 181, 32761}, {api.MUL, 182, 182, -32412}, {api.MUL, 300, 300, 24464}, {api.MUL, 256, 128, -32768}, {api.MUL, 256, 256, 0}, {api.MUL, -32768, -1, -32768}, {api.MUL, 32767, 32767, 1}, {api.MUL, -32768, -32768, 0}, {api.MUL, -32768, 32767, -32768},
		{api.DIV, -7, 2, -3}, {api.DIV, -32768, -1, -32768}, {api.DIV, 32767, -2, -16383}, {api.DIV, -32768, 2, -16384}, {api.DIV, -32767, 32767, -1}, {api.DIV, 32766, 32767, 0}, {api.DIV, 1, 0, 0},
		{api.MOD, -7, 2, -1}, {api.MOD, -32768, -1, 0}, {api.MOD, 32767, -2, 1}, {api.MOD, -32768, 32767, -1}, {api.MOD, 32766, 32767, 32766}, {api.MOD, -32767, 100, -67}, {api.MOD, 1, 0, 0},
	})
}

func TestDoOfDint(t *testing.T) {
	least, most := int64(-2147483648), int64(2147483647)
	does(t, api.Dint, []reckoning{
		{api.ADD, 32767, 1, 32768}, {api.ADD, most, 1, least}, {api.ADD, least, -1, most}, {api.ADD, most, most, -2}, {api.ADD, least, least, 0}, {api.ADD, least, most, -1},
		{api.SUB, least, 1, most}, {api.SUB, most, -1, least}, {api.SUB, 0, least, least}, {api.SUB, least, least, 0},
		{api.MUL, 46340, 46340, 2147395600}, {api.MUL, 46341, 46341, -2147479015}, {api.MUL, 65536, 65536, 0}, {api.MUL, 65536, 32768, least}, {api.MUL, least, least, 0}, {api.MUL, most, most, 1}, {api.MUL, least, most, least}, {api.MUL, least, -1, least}, {api.MUL, -3, 1000000, -3000000},
		{api.DIV, least, -1, least}, {api.DIV, least, 1, least}, {api.DIV, most, -2, -1073741823}, {api.DIV, least, most, -1}, {api.DIV, most, least, 0}, {api.DIV, 5, 0, 0}, {api.DIV, least, 0, 0},
		{api.MOD, least, -1, 0}, {api.MOD, most, -2, 1}, {api.MOD, least, most, -1}, {api.MOD, most, least, most}, {api.MOD, least, 10, -8}, {api.MOD, 5, 0, 0}, {api.MOD, least, 0, 0},
	})
}

func TestDoOfUint(t *testing.T) {
	does(t, api.Uint, []reckoning{
		{api.ADD, 32767, 1, 32768}, {api.ADD, 65535, 1, 0}, {api.ADD, 65535, 65535, 65534}, {api.ADD, 0, 0, 0},
		{api.SUB, 5, 3, 2}, {api.SUB, 0, 1, 65535}, {api.SUB, 0, 65535, 1}, {api.SUB, 3, 5, 65534}, {api.SUB, 65535, 65535, 0},
		{api.MUL, 255, 257, 65535}, {api.MUL, 256, 256, 0}, {api.MUL, 300, 300, 24464}, {api.MUL, 65535, 65535, 1}, {api.MUL, 65535, 2, 65534}, {api.MUL, 32768, 2, 0},
		{api.DIV, 65535, 2, 32767}, {api.DIV, 65535, 65535, 1}, {api.DIV, 65534, 65535, 0}, {api.DIV, 40000, 30000, 1}, {api.DIV, 65535, 1, 65535}, {api.DIV, 65535, 0, 0}, {api.DIV, 0, 0, 0},
		{api.MOD, 65535, 2, 1}, {api.MOD, 65534, 65535, 65534}, {api.MOD, 40000, 30000, 10000}, {api.MOD, 65535, 65535, 0}, {api.MOD, 65535, 0, 0}, {api.MOD, 0, 0, 0},
	})
}

func TestDoOfBool(t *testing.T) {
	// Of each operation what is made of 0 0, 0 1, 1 0, 1 1.
	for op, row := range map[int]string{
		api.AND: "0001", api.OR: "0111", api.XOR: "0110", api.ANDN: "0010", api.ORN: "1011", api.XORN: "1001",
		api.GT: "0010", api.GE: "1011", api.EQ: "1001", api.NE: "0110", api.LE: "1101", api.LT: "0100",
	} {
		for i := range 4 {
			does(t, api.Bool, []reckoning{{op, int64(i / 2), int64(i % 2), int64(row[i] - '0')}})
		}
	}
}

func TestDoOfWord(t *testing.T) {
	does(t, api.Word, []reckoning{
		{api.AND, 0xF0F0, 0xFF00, 0xF000}, {api.OR, 0xF0F0, 0xFF00, 0xFFF0}, {api.XOR, 0xF0F0, 0xFF00, 0x0FF0}, {api.ANDN, 0xF0F0, 0xFF00, 0x00F0}, {api.ORN, 0xF0F0, 0xFF00, 0xF0FF}, {api.XORN, 0xF0F0, 0xFF00, 0xF00F},
		{api.AND, 0, 0, 0}, {api.OR, 0, 0, 0}, {api.XOR, 0, 0, 0}, {api.ANDN, 0, 0, 0}, {api.ORN, 0, 0, 0xFFFF}, {api.XORN, 0, 0, 0xFFFF},
		{api.AND, 0xFFFF, 0xFFFF, 0xFFFF}, {api.OR, 0xFFFF, 0xFFFF, 0xFFFF}, {api.XOR, 0xFFFF, 0xFFFF, 0}, {api.ANDN, 0xFFFF, 0xFFFF, 0}, {api.ORN, 0xFFFF, 0xFFFF, 0xFFFF}, {api.XORN, 0xFFFF, 0xFFFF, 0xFFFF},
		{api.ANDN, 0xFFFF, 0, 0xFFFF}, {api.ANDN, 0, 0xFFFF, 0}, {api.ORN, 0, 0xFFFF, 0}, {api.ORN, 0xFFFF, 0, 0xFFFF}, {api.XORN, 0xFFFF, 0, 0}, {api.ORN, 0, 0xFF00, 0x00FF}, {api.AND, 2, 1, 0}, {api.OR, 2, 1, 3},
	})
}

func TestDoOfDword(t *testing.T) {
	does(t, api.Dword, []reckoning{
		{api.AND, 0xF0F01234, 0xFF00FFFF, 0xF0001234}, {api.OR, 0xF0F01234, 0xFF00FFFF, 0xFFF0FFFF}, {api.XOR, 0xF0F01234, 0xFF00FFFF, 0x0FF0EDCB}, {api.ANDN, 0xF0F01234, 0xFF00FFFF, 0x00F00000}, {api.ORN, 0xF0F01234, 0xFF00FFFF, 0xF0FF1234}, {api.XORN, 0xF0F01234, 0xFF00FFFF, 0xF00F1234},
		{api.AND, 0, 0, 0}, {api.OR, 0, 0, 0}, {api.XOR, 0, 0, 0}, {api.ANDN, 0, 0, 0}, {api.ORN, 0, 0, 0xFFFFFFFF}, {api.XORN, 0, 0, 0xFFFFFFFF},
		{api.XOR, 0xFFFFFFFF, 1, 0xFFFFFFFE}, {api.ANDN, 0xFFFFFFFF, 0, 0xFFFFFFFF}, {api.ORN, 0, 0xFFFFFFFF, 0}, {api.XORN, 0xFFFFFFFF, 0xFFFFFFFF, 0xFFFFFFFF}, {api.AND, 0x80000000, 0xFFFFFFFF, 0x80000000},
	})
}

// TestOrder holds each kind's ends, and -1 and 0, against one another: what is signed lies below 0, and what isn't is great.
func TestOrder(t *testing.T) {
	for _, tr := range traits() {
		middle := (tr.least + tr.most) / 2
		for _, c := range [][2]int64{{tr.least, tr.most}, {tr.least, tr.least + 1}, {tr.most - 1, tr.most}, {middle, tr.most}, {0, 1}, {0, tr.most}} {
			low, high := c[0], c[1]
			does(t, tr.kind, []reckoning{
				{api.GT, low, high, 0}, {api.GE, low, high, 0}, {api.EQ, low, high, 0}, {api.NE, low, high, 1}, {api.LE, low, high, 1}, {api.LT, low, high, 1},
				{api.GT, high, low, 1}, {api.GE, high, low, 1}, {api.EQ, high, low, 0}, {api.NE, high, low, 1}, {api.LE, high, low, 0}, {api.LT, high, low, 0},
			})
		}
		for _, v := range edgesOf(tr) {
			does(t, tr.kind, []reckoning{{api.GT, v, v, 0}, {api.GE, v, v, 1}, {api.EQ, v, v, 1}, {api.NE, v, v, 0}, {api.LE, v, v, 1}, {api.LT, v, v, 0}})
		}
	}
	for _, kind := range []int{api.Sint, api.Int, api.Dint} {
		does(t, kind, []reckoning{{api.GT, -1, 0, 0}, {api.LT, -1, 0, 1}, {api.GE, -1, 1, 0}, {api.LE, -2, -1, 1}, {api.GT, -1, -2, 1}, {api.EQ, -1, 1, 0}, {api.NE, -1, 1, 1}})
	}
	does(t, api.Uint, []reckoning{{api.GT, 65535, 0, 1}, {api.LT, 32768, 32767, 0}})
	does(t, api.Word, []reckoning{{api.GT, 65535, 0, 1}, {api.LT, 32768, 32767, 0}})
	does(t, api.Dword, []reckoning{{api.GT, 1<<32 - 1, 0, 1}, {api.LT, 1 << 31, 1<<31 - 1, 0}})
}

func TestErrorsOfDo(t *testing.T) {
	for _, c := range []struct {
		name     string
		op, kind int
		a, b     int64
		want     api.Errno
	}{
		{"arithmetic of BOOL", api.ADD, api.Bool, 1, 1, api.ErrType},
		{"arithmetic of WORD", api.SUB, api.Word, 1, 1, api.ErrType},
		{"arithmetic of DWORD", api.MOD, api.Dword, 1, 1, api.ErrType},
		{"logic of SINT", api.AND, api.Sint, 1, 1, api.ErrType},
		{"logic of INT", api.OR, api.Int, 1, 1, api.ErrType},
		{"logic of DINT", api.XORN, api.Dint, 1, 1, api.ErrType},
		{"logic of UINT", api.ANDN, api.Uint, 1, 1, api.ErrType},
		{"NOT, that may be", api.NOT, api.Bool, 1, 1, api.ErrType},
		{"NOT of WORD", api.NOT, api.Word, 0, 0, api.ErrType},
		{"NOT of INT", api.NOT, api.Int, 1, 1, api.ErrType},
		{"LD", api.LD, api.Int, 1, 1, api.ErrType},
		{"R, beside AND", api.R, api.Bool, 1, 1, api.ErrType},
		{"JMP, beside LT", api.JMP, api.Bool, 1, 1, api.ErrType},
		{"no operation", 0, api.Int, 1, 1, api.ErrType},
		{"no kind", api.EQ, 0, 0, 0, api.ErrType},
		{"the number behind the last kind", api.ADD, 8, 1, 1, api.ErrType},
		{"an operation that may not be, with values that are none", api.ADD, api.Bool, 2, -1, api.ErrType},
		{"logic of INT, with values that are none", api.AND, api.Int, 1 << 20, -1 << 20, api.ErrType},
		{"NOT, with values that are none", api.NOT, api.Bool, 2, 2, api.ErrType},
		{"no kind and no values", api.GT, -1, math.MinInt64, math.MaxInt64, api.ErrType},
		{"the first is no value", api.ADD, api.Sint, 128, 1, api.ErrArg},
		{"the second is no value", api.ADD, api.Sint, 1, 128, api.ErrArg},
		{"neither is a value", api.ADD, api.Sint, -129, 128, api.ErrArg},
		{"beyond by 2^8, so that lower bits would do", api.ADD, api.Sint, 257, 1, api.ErrArg},
		{"BOOL 2", api.GT, api.Bool, 1, 2, api.ErrArg},
		{"BOOL -1", api.AND, api.Bool, -1, 1, api.ErrArg},
		{"WORD -1", api.OR, api.Word, 1, -1, api.ErrArg},
		{"UINT -1", api.SUB, api.Uint, -1, 1, api.ErrArg},
		{"DWORD 2^32", api.XORN, api.Dword, 1 << 32, 1, api.ErrArg},
		{"DINT 2^31", api.MUL, api.Dint, 1 << 31, 1, api.ErrArg},
		{"by 0, but no value", api.DIV, api.Int, 32768, 0, api.ErrArg},
		{"no value by 0", api.MOD, api.Int, -32769, 0, api.ErrArg},
		{"by no value", api.DIV, api.Uint, 0, 65536, api.ErrArg},
		{"the same, but no values", api.EQ, api.Sint, 500, 500, api.ErrArg},
	} {
		if v, e := Do(c.op, c.kind, c.a, c.b); v != 0 || e != c.want {
			t.Errorf("%s: %d, %d, want %d", c.name, v, e, c.want)
		}
	}
}

// TestDoOfAllPairsOfEdges holds each operation with each kind against the plain way, of values and of numbers that are none.
func TestDoOfAllPairsOfEdges(t *testing.T) {
	for _, tr := range traits() {
		list := append(edgesOf(tr), tr.least-1, tr.most+1, tr.least-(tr.most-tr.least+1), tr.most*2+2, math.MinInt64, math.MaxInt64)
		for _, op := range allOps() {
			if !plainMay(op, tr.kind) {
				continue
			}
			for _, a := range list {
				for _, b := range list {
					sameDo(t, op, tr.kind, a, b)
				}
			}
		}
	}
}

func TestDoOfWhatMayNotBe(t *testing.T) {
	for _, kind := range kinds() {
		for _, op := range allOps() {
			if plainMay(op, kind) && op != api.NOT {
				continue
			}
			for _, a := range fewEdges() {
				for _, b := range fewEdges() {
					if v, e := Do(op, kind, a, b); v != 0 || e != api.ErrType {
						t.Fatalf("Do(%d, %d, %d, %d) = %d, %d", op, kind, a, b, v, e)
					}
				}
			}
		}
	}
}

// TestDoOfAllPairsOfSint holds P11.2, against numbers that have no end.
func TestDoOfAllPairsOfSint(t *testing.T) {
	for _, op := range slices.Concat(arithmeticOps(), orderOps()) {
		for a := int64(-128); a <= 127; a++ {
			for b := int64(-128); b <= 127; b++ {
				sameDo(t, op, api.Sint, a, b)
			}
		}
	}
}

// TestDoOfDrawnPairs holds P11.2, and logic and order with it: pairs of any values, of great and small ones, and of one drawn and one at an edge.
func TestDoOfDrawnPairs(t *testing.T) {
	d := dice(11)
	for _, tr := range traits() {
		edges := edgesOf(tr)
		for _, op := range slices.Concat(arithmeticOps(), logicOps(), orderOps()) {
			if !plainMay(op, tr.kind) {
				continue
			}
			for range 1000 {
				a, b, edge := d.valueOf(tr), d.valueOf(tr), edges[d.below(len(edges))]
				small := plainWrap(tr.kind, b>>d.below(32))
				sameDo(t, op, tr.kind, a, b)
				sameDo(t, op, tr.kind, a, small)
				sameDo(t, op, tr.kind, small, b)
				sameDo(t, op, tr.kind, a, edge)
				sameDo(t, op, tr.kind, edge, b)
				sameDo(t, op, tr.kind, a, a)
			}
		}
	}
}

// TestQuotientAndRest are the whole together, the rest has the sign of what was divided, and is the smaller one.
func TestQuotientAndRest(t *testing.T) {
	for _, kind := range []int{api.Sint, api.Int, api.Dint, api.Uint} {
		tr, _ := traitOf(kind)
		for _, a := range edgesOf(tr) {
			for _, b := range edgesOf(tr) {
				quotient, _ := Do(api.DIV, kind, a, b)
				rest, _ := Do(api.MOD, kind, a, b)
				if b == 0 {
					if quotient != 0 || rest != 0 {
						t.Errorf("%s: %d by 0: %d, %d", tr.name, a, quotient, rest)
					}
					continue
				}
				back, _ := Do(api.MUL, kind, quotient, b)
				back, _ = Do(api.ADD, kind, back, rest)
				if back != a || rest != 0 && (rest < 0) != (a < 0) || max(rest, -rest) >= max(b, -b) {
					t.Errorf("%s: %d by %d: %d, %d", tr.name, a, b, quotient, rest)
				}
			}
		}
	}
}

func TestNot(t *testing.T) {
	for _, c := range []struct {
		kind    int
		v, want int64
	}{
		{api.Bool, 0, 1}, {api.Bool, 1, 0}, {api.Bool, 2, 0}, {api.Bool, 3, 0}, {api.Bool, -1, 0}, {api.Bool, -2, 0}, {api.Bool, 254, 0}, {api.Bool, 255, 0}, {api.Bool, 256, 0}, {api.Bool, math.MinInt64, 0}, {api.Bool, math.MaxInt64, 0},
		{api.Word, 0, 0xFFFF}, {api.Word, 0xFFFF, 0}, {api.Word, 1, 0xFFFE}, {api.Word, 0x8000, 0x7FFF}, {api.Word, 0xF0F0, 0x0F0F}, {api.Word, 0x1234, 0xEDCB}, {api.Word, -1, 0}, {api.Word, -2, 0}, {api.Word, 65536, 0}, {api.Word, 65537, 0}, {api.Word, math.MinInt64, 0}, {api.Word, math.MaxInt64, 0},
		{api.Dword, 0, 0xFFFFFFFF}, {api.Dword, 0xFFFFFFFF, 0}, {api.Dword, 1, 0xFFFFFFFE}, {api.Dword, 0x80000000, 0x7FFFFFFF}, {api.Dword, 0x12345678, 0xEDCBA987}, {api.Dword, 0xFFFF, 0xFFFF0000}, {api.Dword, -1, 0}, {api.Dword, 1 << 32, 0}, {api.Dword, math.MinInt64, 0}, {api.Dword, math.MaxInt64, 0},
		{api.Sint, 0, 0}, {api.Sint, 1, 0}, {api.Sint, -1, 0}, {api.Sint, -128, 0}, {api.Int, 0, 0}, {api.Int, 1, 0}, {api.Int, -1, 0}, {api.Dint, 0, 0}, {api.Dint, -5, 0}, {api.Uint, 0, 0}, {api.Uint, 1, 0}, {api.Uint, 65535, 0},
		{0, 0, 0}, {0, 1, 0}, {8, 0, 0}, {-1, 0, 0}, {math.MinInt, 0, 0}, {math.MaxInt, 1, 0},
	} {
		if v := Not(c.kind, c.v); v != c.want {
			t.Errorf("Not(%d, %d) = %d, want %d", c.kind, c.v, v, c.want)
		}
	}
}

func TestNotOfAllEdges(t *testing.T) {
	for _, kind := range kinds() {
		for _, v := range edges() {
			if got, want := Not(kind, v), plainNot(kind, v); got != want {
				t.Errorf("Not(%d, %d) = %d, want %d", kind, v, got, want)
			}
			if plainIs(kind, v) && plainMay(api.NOT, kind) && Not(kind, Not(kind, v)) != v {
				t.Errorf("Not(%d, %d) turned back: %d", kind, v, Not(kind, Not(kind, v)))
			}
		}
	}
	for v := int64(-70000); v <= 140000; v++ {
		if got, want := Not(api.Word, v), plainNot(api.Word, v); got != want {
			t.Fatalf("Not(WORD, %d) = %d, want %d", v, got, want)
		}
	}
}

func TestGet(t *testing.T) {
	area := "\x00\x01\x80\xff\x7f\xfe\x12\x34"
	for _, c := range []struct {
		area     string
		at, kind int
		want     int64
		ok       bool
	}{
		{area, 0, api.Bool, 0, true}, {area, 1, api.Bool, 1, true}, {area, 2, api.Bool, 1, true}, {area, 3, api.Bool, 1, true}, {area, 6, api.Bool, 1, true}, {area, 7, api.Bool, 1, true}, {area, 8, api.Bool, 0, false}, {"\x02", 0, api.Bool, 1, true}, {"\x07", 0, api.Bool, 1, true},
		{area, 0, api.Sint, 0, true}, {area, 1, api.Sint, 1, true}, {area, 2, api.Sint, -128, true}, {area, 3, api.Sint, -1, true}, {area, 4, api.Sint, 127, true}, {area, 5, api.Sint, -2, true}, {area, 7, api.Sint, 0x34, true}, {area, 8, api.Sint, 0, false},
		{area, 0, api.Int, 1, true}, {area, 1, api.Int, 0x180, true}, {area, 2, api.Int, -32513, true}, {area, 3, api.Int, -129, true}, {area, 4, api.Int, 0x7ffe, true}, {area, 6, api.Int, 0x1234, true}, {area, 7, api.Int, 0, false}, {area, 8, api.Int, 0, false},
		{area, 0, api.Uint, 1, true}, {area, 2, api.Uint, 0x80ff, true}, {area, 3, api.Uint, 0xff7f, true}, {area, 6, api.Uint, 0x1234, true}, {area, 7, api.Uint, 0, false},
		{area, 0, api.Word, 1, true}, {area, 2, api.Word, 0x80ff, true}, {area, 6, api.Word, 0x1234, true}, {area, 7, api.Word, 0, false},
		{area, 0, api.Dint, 0x180ff, true}, {area, 2, api.Dint, -2130739202, true}, {area, 3, api.Dint, -8389102, true}, {area, 4, api.Dint, 0x7ffe1234, true}, {area, 5, api.Dint, 0, false}, {area, 6, api.Dint, 0, false}, {area, 7, api.Dint, 0, false}, {area, 8, api.Dint, 0, false},
		{area, 0, api.Dword, 0x180ff, true}, {area, 2, api.Dword, 0x80ff7ffe, true}, {area, 4, api.Dword, 0x7ffe1234, true}, {area, 5, api.Dword, 0, false},
		{area, -1, api.Bool, 0, false}, {area, -1, api.Dint, 0, false}, {area, -4, api.Dint, 0, false}, {area, math.MinInt, api.Sint, 0, false}, {area, math.MaxInt, api.Bool, 0, false}, {area, math.MaxInt, api.Dint, 0, false}, {area, math.MaxInt - 1, api.Int, 0, false}, {area, math.MaxInt - 3, api.Dword, 0, false},
		{area, 0, 0, 0, false}, {area, 0, 8, 0, false}, {area, 0, -1, 0, false}, {area, 3, math.MinInt, 0, false}, {area, 3, math.MaxInt, 0, false}, {area, 8, 0, 0, false},
		{"", 0, api.Bool, 0, false}, {"", 0, api.Int, 0, false}, {"", 0, api.Dint, 0, false}, {"", -1, api.Bool, 0, false}, {"", 0, 0, 0, false},
		{"\xff\xff\xff\xff", 0, api.Dword, 1<<32 - 1, true}, {"\xff\xff\xff\xff", 0, api.Dint, -1, true}, {"\xff\xff", 0, api.Int, -1, true}, {"\xff\xff", 0, api.Word, 65535, true}, {"\x80\x00\x00\x00", 0, api.Dint, -1 << 31, true}, {"\x80\x00\x00\x00", 0, api.Dword, 1 << 31, true},
	} {
		if v, ok := Get(c.area, c.at, c.kind); v != c.want || ok != c.ok {
			t.Errorf("Get(%q, %d, %d) = %d, %v, want %d", c.area, c.at, c.kind, v, ok, c.want)
		}
	}
}

func TestPut(t *testing.T) {
	for _, c := range []struct {
		area     string
		at, kind int
		v        int64
		want     string
		ok       bool
	}{
		{"abcdef", 0, api.Bool, 1, "\x01bcdef", true}, {"abcdef", 5, api.Bool, 0, "abcde\x00", true}, {"abcdef", 2, api.Bool, 2, "ab\x01def", true}, {"abcdef", 2, api.Bool, -1, "ab\x01def", true}, {"abcdef", 2, api.Bool, 256, "ab\x01def", true}, {"abcdef", 2, api.Bool, math.MinInt64, "ab\x01def", true},
		{"abcdef", 0, api.Sint, -1, "\xffbcdef", true}, {"abcdef", 5, api.Sint, 127, "abcde\x7f", true}, {"abcdef", 1, api.Sint, 128, "a\x80cdef", true}, {"abcdef", 1, api.Sint, -129, "a\x7fcdef", true}, {"abcdef", 1, api.Sint, 0x1234, "a\x34cdef", true},
		{"abcdef", 0, api.Int, 0x1234, "\x12\x34cdef", true}, {"abcdef", 4, api.Int, -2, "abcd\xff\xfe", true}, {"abcdef", 1, api.Int, 32768, "a\x80\x00def", true}, {"abcdef", 1, api.Int, 0x12345, "a\x23\x45def", true},
		{"abcdef", 0, api.Uint, 0x1234, "\x12\x34cdef", true}, {"abcdef", 4, api.Uint, 65535, "abcd\xff\xff", true}, {"abcdef", 3, api.Uint, -2, "abc\xff\xfef", true}, {"abcdef", 3, api.Uint, 65536, "abc\x00\x00f", true},
		{"abcdef", 2, api.Word, 0x80FF, "ab\x80\xffef", true}, {"abcdef", 4, api.Word, -1, "abcd\xff\xff", true},
		{"abcdef", 0, api.Dint, 0x12345678, "\x12\x34\x56\x78ef", true}, {"abcdef", 2, api.Dint, -2, "ab\xff\xff\xff\xfe", true}, {"abcdef", 1, api.Dint, 1 << 31, "a\x80\x00\x00\x00f", true}, {"abcdef", 1, api.Dint, math.MaxInt64, "a\xff\xff\xff\xfff", true},
		{"abcdef", 0, api.Dword, 0xFEDCBA98, "\xfe\xdc\xba\x98ef", true}, {"abcdef", 2, api.Dword, -2, "ab\xff\xff\xff\xfe", true}, {"abcdef", 1, api.Dword, 1<<32 + 1, "a\x00\x00\x00\x01f", true}, {"abcdef", 1, api.Dword, math.MinInt64, "a\x00\x00\x00\x00f", true},
		{"abcd", 0, api.Dword, 0x01020304, "\x01\x02\x03\x04", true}, {"ab", 0, api.Int, 0x0102, "\x01\x02", true}, {"a", 0, api.Sint, 3, "\x03", true},
		{"abcdef", 6, api.Bool, 1, "abcdef", false}, {"abcdef", 6, api.Sint, 1, "abcdef", false}, {"abcdef", 5, api.Int, 1, "abcdef", false}, {"abcdef", 5, api.Uint, 1, "abcdef", false}, {"abcdef", 5, api.Word, 1, "abcdef", false}, {"abcdef", 3, api.Dint, 1, "abcdef", false}, {"abcdef", 5, api.Dint, 1, "abcdef", false}, {"abcdef", 3, api.Dword, 1, "abcdef", false}, {"abcdef", 7, api.Bool, 1, "abcdef", false},
		{"abcdef", -1, api.Bool, 1, "abcdef", false}, {"abcdef", -1, api.Dint, 1, "abcdef", false}, {"abcdef", -2, api.Int, 1, "abcdef", false}, {"abcdef", math.MinInt, api.Int, 1, "abcdef", false}, {"abcdef", math.MaxInt, api.Bool, 1, "abcdef", false}, {"abcdef", math.MaxInt, api.Dint, 1, "abcdef", false}, {"abcdef", math.MaxInt - 1, api.Int, 1, "abcdef", false}, {"abcdef", math.MaxInt - 3, api.Dword, 1, "abcdef", false},
		{"abcdef", 0, 0, 1, "abcdef", false}, {"abcdef", 0, 8, 1, "abcdef", false}, {"abcdef", 0, -1, 1, "abcdef", false}, {"abcdef", 2, math.MinInt, 1, "abcdef", false}, {"abcdef", 2, math.MaxInt, 1, "abcdef", false}, {"abcdef", 6, 0, 1, "abcdef", false},
		{"", 0, api.Bool, 1, "", false}, {"", 0, api.Int, 1, "", false}, {"", 0, api.Dint, 1, "", false}, {"", -1, api.Bool, 1, "", false}, {"", 0, 0, 1, "", false}, {"abc", 0, api.Dint, 1, "abc", false}, {"a", 0, api.Int, 1, "a", false},
	} {
		area := []byte(c.area)
		if ok := Put(area, c.at, c.kind, c.v); ok != c.ok || string(area) != c.want {
			t.Errorf("Put(%q, %d, %d, %d) = %v, and %q, want %q", c.area, c.at, c.kind, c.v, ok, area, c.want)
		}
	}
}

// TestPutNowhere hands in a nil area, and one that has room, but no bytes.
func TestPutNowhere(t *testing.T) {
	whole := []byte("abcdefgh")
	for _, kind := range kinds() {
		for _, at := range places(0) {
			if Put(nil, at, kind, 1) || Put(whole[:0], at, kind, 1) || Put(whole[4:4], at, kind, 1) || Put(whole[2:2:2], at, kind, -1) {
				t.Errorf("Put at %d, of kind %d", at, kind)
			}
		}
	}
	if string(whole) != "abcdefgh" {
		t.Errorf("%q", whole)
	}
}

// places are some near the beginning and the end of so many bytes, and some far from them.
func places(length int) []int {
	list := []int{
		math.MinInt, math.MinInt + 1, math.MinInt + 4, -1<<32 + 1, -1 << 32, -1 << 31, -65536, -256, -64, -5, -4, -3, -2, -1,
		64, 256, 65536, 1<<31 - 1, 1 << 31, 1 << 32, 1<<32 + 1, math.MaxInt - 8, math.MaxInt - 4, math.MaxInt - 3, math.MaxInt - 2, math.MaxInt - 1, math.MaxInt,
	}
	for at := range length + 6 {
		list = append(list, at)
	}
	return list
}

// pattern is so many bytes, each unlike its neighbours.
func pattern(length int) string {
	bytes := []byte{}
	for i := range length {
		bytes = append(bytes, byte(i*73+129))
	}
	return string(bytes)
}

// TestGetAndPutAtAllPlaces of areas of 0 to 70 bytes, a part of a greater one: what lies beside it stays.
func TestGetAndPutAtAllPlaces(t *testing.T) {
	for length := range 71 {
		for _, kind := range kinds() {
			for _, at := range places(length) {
				before := pattern(length + 16)
				w, whole := twinOf(before[8:8+length]), []byte(before)
				v, ok := Get(before[8:8+length], at, kind)
				if want, wantOK := w.get(at, kind); v != want || ok != wantOK {
					t.Fatalf("of %d bytes, Get at %d, of kind %d: %d, %v, want %d, %v", length, at, kind, v, ok, want, wantOK)
				}
				put, wantPut := Put(whole[8:8+length], at, kind, -0x1234567), w.put(at, kind, -0x1234567)
				if want := before[:8] + bytesOf(t, w) + before[8+length:]; put != wantPut || string(whole) != want {
					t.Fatalf("of %d bytes, Put at %d, of kind %d: %v, and %x, want %v, and %x", length, at, kind, put, whole, wantPut, want)
				}
			}
		}
	}
}

// bytesOf tells the bytes of a twin.
func bytesOf(t *testing.T, w *twin) string {
	t.Helper()
	bytes := []byte{}
	for i := 0; i < len(w.digits); i += 2 {
		n, err := strconv.ParseUint(w.digits[i:i+2], 16, 8)
		if err != nil {
			t.Fatal(err)
		}
		bytes = append(bytes, byte(n))
	}
	return string(bytes)
}

// TestWhatIsPutIsGot holds P11.2, at each kind, at all places of an area, of all edges.
func TestWhatIsPutIsGot(t *testing.T) {
	for _, tr := range traits() {
		for at := range 64 - tr.size + 1 {
			area := []byte(pattern(64))
			for _, v := range edges() {
				if !Put(area, at, tr.kind, v) {
					t.Fatalf("Put of %s at %d", tr.name, at)
				}
				if got, ok := Get(string(area), at, tr.kind); !ok || got != plainWrap(tr.kind, v) || got != Wrap(tr.kind, v) {
					t.Fatalf("%s at %d: %d was put, %d got", tr.name, at, v, got)
				}
				if before := pattern(64); string(area[:at]) != before[:at] || string(area[at+tr.size:]) != before[at+tr.size:] {
					t.Fatalf("%s at %d: others changed", tr.name, at)
				}
			}
		}
	}
}

// TestAllShortNumbersPutAndGot goes through all that one or two bytes tell, and beyond, and through many that four tell.
func TestAllShortNumbersPutAndGot(t *testing.T) {
	d := dice(4)
	for _, tr := range traits() {
		area := make([]byte, 7)
		for n := int64(-66000); n <= 132000; n++ {
			v := n
			if tr.size == 4 {
				v = d.number() >> d.below(64)
			}
			if !Put(area, 2, tr.kind, v) {
				t.Fatalf("Put of %s", tr.name)
			}
			if got, ok := Get(string(area), 2, tr.kind); !ok || got != Wrap(tr.kind, v) || !Is(tr.kind, got) {
				t.Fatalf("%s: %d was put, %d got", tr.name, v, got)
			}
		}
	}
}

// TestGetOfAllBytes goes through all one and two bytes, and each of four: highest first, with a sign where there is one.
func TestGetOfAllBytes(t *testing.T) {
	for _, tr := range traits() {
		for n := range 65536 {
			area := string([]byte{byte(n / 256), byte(n % 256), byte(n * 7), byte(n * 31)})
			want, _ := twinOf(area).get(0, tr.kind)
			if v, ok := Get(area, 0, tr.kind); v != want || !ok {
				t.Fatalf("Get(%q, 0, %s) = %d, %v, want %d", area, tr.name, v, ok, want)
			}
		}
	}
}

// TestOneKindPutAndAnotherGot reads as each kind what was put as each.
func TestOneKindPutAndAnotherGot(t *testing.T) {
	for _, putAs := range traits() {
		for _, gotAs := range traits() {
			for _, v := range edges() {
				area, w := []byte(pattern(12)), twinOf(pattern(12))
				Put(area, 4, putAs.kind, v)
				w.put(4, putAs.kind, v)
				for at := range 12 {
					got, ok := Get(string(area), at, gotAs.kind)
					if want, wantOK := w.get(at, gotAs.kind); got != want || ok != wantOK {
						t.Fatalf("%s %d put at 4, %s got at %d: %d, %v, want %d, %v", putAs.name, v, gotAs.name, at, got, ok, want, wantOK)
					}
				}
			}
		}
	}
}

// anyOf are some of a list, mostly, and else any number.
func anyOf(d *dice, list []int64) int64 {
	if d.below(3) == 0 {
		return d.number() >> d.below(64)
	}
	return list[d.below(len(list))]
}

// mixed does one call, drawn, of an area and its twin, with the value that was answered last, and tells the next one.
func mixed(t *testing.T, d *dice, area []byte, w *twin, last int64, list []int64) int64 {
	t.Helper()
	kind, at := d.below(9), d.below(len(area)+8)-4
	v := last
	if d.below(2) == 0 {
		v = anyOf(d, list)
	}
	got, want := int64(0), int64(0)
	ok, wantOK := true, true
	switch d.below(6) {
	case 0:
		ok, wantOK = Put(area, at, kind, v), w.put(at, kind, v)
	case 1:
		got, ok = Get(string(area), at, kind)
		want, wantOK = w.get(at, kind)
	case 2:
		got, want = Not(kind, v), plainNot(kind, v)
	case 3:
		got, want = Wrap(kind, v), plainWrap(kind, v)
		ok, wantOK = Is(kind, v), plainIs(kind, v)
	default:
		op := d.below(20) + 6
		a, b := Wrap(kind, last), Wrap(kind, v)
		e, wantE := api.OK, api.OK
		got, e = Do(op, kind, a, b)
		want, wantE = plainDo(op, kind, a, b)
		ok, wantOK = e == api.OK, wantE == api.OK
	}
	if got != want || ok != wantOK || string(area) != bytesOf(t, w) {
		t.Fatalf("kind %d, at %d, %d behind %d: %d, %v, want %d, %v; %x, want %s", kind, at, v, last, got, ok, want, wantOK, area, w.digits)
	}
	return got
}

// TestManyCallsMixed holds long runs of calls over areas of several lengths against the twin.
func TestManyCallsMixed(t *testing.T) {
	d, list := dice(8), edges()
	for _, length := range []int{0, 1, 2, 3, 4, 5, 7, 8, 16, 63, 64, 65, 200} {
		area, w, last := []byte(pattern(length)), twinOf(pattern(length)), int64(0)
		for range 5000 {
			last = mixed(t, &d, area, w, last, list)
		}
	}
}

// TestWhatIsHandedInStays holds P0 of Get's area, and of names; two areas don't touch one another.
func TestWhatIsHandedInStays(t *testing.T) {
	area, name := pattern(64), "DWORD"
	other, mine := []byte(pattern(64)), []byte(pattern(64))
	for _, kind := range kinds() {
		for _, at := range places(64) {
			Get(area, at, kind)
			Get(area[3:9], at, kind)
			Put(mine, at, kind, math.MaxInt64)
			Named(name)
		}
	}
	if area != pattern(64) || string(other) != pattern(64) || name != "DWORD" {
		t.Errorf("%x, %x, %q", area, other, name)
	}
}

// TestWhatWasAnsweredStays holds P0: values and names are what they were, whatever is put and asked behind them.
func TestWhatWasAnsweredStays(t *testing.T) {
	type answer struct {
		name, namedAs string
		size, kind    int
		values        [5]int64
		oks           [3]bool
		e             api.Errno
	}
	ask := func(area []byte, tr trait, v int64) answer {
		a := answer{name: Name(tr.kind), size: Size(tr.kind)}
		a.namedAs = strings.Clone(a.name)
		a.kind, a.oks[0] = Named(tr.name)
		a.oks[1], a.oks[2] = Is(tr.kind, v), May(api.AND, tr.kind)
		a.values[0], a.values[1] = Wrap(tr.kind, v), Not(tr.kind, v)
		a.values[2], a.e = Do(api.GE, tr.kind, v, v)
		a.values[3], _ = Get(string(area), 9, tr.kind)
		return a
	}
	area, kept, again := []byte(pattern(64)), []answer{}, []answer{}
	for _, tr := range traits() {
		for _, v := range fewEdges() {
			kept, again = append(kept, ask(area, tr, v)), append(again, ask(area, tr, v))
		}
	}
	for _, kind := range kinds() {
		for at := range 64 {
			Put(area, at, kind, int64(at))
			Name(kind)
			Do(api.ADD, kind, 1, 1)
		}
	}
	for i, a := range kept {
		if a != again[i] || a.name != a.namedAs {
			t.Errorf("%+v, and then %+v", again[i], a)
		}
	}
}

// TestEveryCallEnds holds P0 and R7: every call, at all chosen arguments, answers, and the same once more.
func TestEveryCallEnds(t *testing.T) {
	one, two := []byte(pattern(9)), []byte(pattern(9))
	for _, kind := range kinds() {
		if Size(kind) != Size(kind) || Name(kind) != Name(kind) {
			t.Fatalf("of %d two answers", kind)
		}
		for _, v := range edges() {
			if Is(kind, v) != Is(kind, v) || Wrap(kind, v) != Wrap(kind, v) || Not(kind, v) != Not(kind, v) {
				t.Fatalf("of %d and %d two answers", kind, v)
			}
		}
		for _, at := range places(9) {
			for _, v := range fewEdges() {
				if Put(one, at, kind, v) != Put(two, at, kind, v) || string(one) != string(two) {
					t.Fatalf("Put at %d, of kind %d: two answers", at, kind)
				}
				first, firstOK := Get(string(one), at, kind)
				second, secondOK := Get(string(two), at, kind)
				if first != second || firstOK != secondOK || !firstOK && first != 0 {
					t.Fatalf("Get at %d, of kind %d: %d, %v and %d, %v", at, kind, first, firstOK, second, secondOK)
				}
			}
		}
	}
	for _, op := range allOps() {
		for _, kind := range kinds() {
			if May(op, kind) != May(op, kind) {
				t.Fatalf("May(%d, %d): two answers", op, kind)
			}
			for _, a := range fewEdges() {
				for _, b := range fewEdges() {
					first, firstE := Do(op, kind, a, b)
					second, secondE := Do(op, kind, a, b)
					if first != second || firstE != secondE || firstE != api.OK && first != 0 {
						t.Fatalf("Do(%d, %d, %d, %d): %d, %d and %d, %d", op, kind, a, b, first, firstE, second, secondE)
					}
				}
			}
		}
	}
}
