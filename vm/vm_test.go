package vm

import (
	"fmt"
	"math"
	"math/big"
	"slices"
	"strings"
	"testing"

	"fugleman/api"
	"fugleman/il"
	"fugleman/verify"
)

// dice are numbers in no order, always the same ones.
type dice uint64

func (d *dice) next() uint32 {
	*d = *d*6364136223846793005 + 1442695040888963407
	return uint32(*d >> 32)
}

func (d *dice) below(n int) int {
	return int(uint64(d.next()) * uint64(n) >> 32)
}

func anyOf[T any](d *dice, list []T) T {
	return list[d.below(len(list))]
}

const (
	numbers = "SINT INT DINT UINT"
	bits    = "BOOL WORD DWORD"
)

func kindNames() []string {
	return strings.Fields("BOOL SINT INT DINT UINT WORD DWORD")
}

func nameOf(kind int) string {
	return kindNames()[kind-1]
}

func kindOf(name string) int {
	return slices.Index(kindNames(), name) + 1
}

func sizeOf(kind int) int {
	return []int{0, 1, 1, 2, 4, 2, 2, 4}[kind]
}

// among tells whether a kind is one of those names.
func among(list string, kind int) bool {
	return slices.Contains(strings.Fields(list), nameOf(kind))
}

// ends are the values of a kind at its ends, and some between them.
func ends(kind int) []int64 {
	half := int64(1) << (8*sizeOf(kind) - 1)
	switch {
	case kind == api.Bool:
		return []int64{0, 1}
	case kind == api.Sint || kind == api.Int || kind == api.Dint:
		return []int64{-half, -half + 1, -7, -1, 0, 1, 2, half - 2, half - 1}
	}
	return []int64{0, 1, 2, 7, half - 1, half, half + 1, 2*half - 2, 2*half - 1}
}

// plain is the second way of running: values are numbers without an end, areas are bytes one for one, and an open bracket is what its end does.
type plain struct {
	code   []api.Instr
	bytes  [5][64]int // the areas are counted from 1 on
	passed int
	kind   int
	value  *big.Int
	ends   []func()
	steps  int
	zero   int
}

// number is one without an end.
func number(n int64) *big.Int {
	return big.NewInt(n)
}

// range256 is how many values as many bytes have.
func range256(size int) *big.Int {
	return new(big.Int).Exp(number(256), number(int64(size)), nil)
}

func areasOf(img api.Image) [4]string {
	return [4]string{img.I, img.Q, img.M, img.R}
}

func imageOf(a [4]string) api.Image {
	return api.Image{I: a[0], Q: a[1], M: a[2], R: a[3]}
}

// want runs a program in the second way.
func want(code []api.Instr, img api.Image, passed int) (api.Image, api.Scan) {
	p := &plain{code: code, passed: passed, value: number(0)}
	for n, area := range areasOf(img) {
		for at := range min(len(area), 64) {
			p.bytes[n+1][at] = int(area[at])
		}
	}
	p.from(0)
	scan := api.Scan{Steps: p.steps, Zero: p.zero, Kind: p.kind, Value: p.value.Int64()}
	return p.image(), scan
}

func (p *plain) image() api.Image {
	var all [4]string
	for n := range all {
		area := make([]byte, 64)
		for at := range area {
			area[at] = byte(p.bytes[n+1][at])
		}
		all[n] = string(area)
	}
	return imageOf(all)
}

// from does the instruction of that number, and all that come behind it.
func (p *plain) from(at int) {
	if at >= len(p.code) {
		return
	}
	p.steps++
	i := p.code[at]
	one := p.value.Sign() != 0
	leaves := map[int]bool{api.JMP: true, api.RET: true, api.JMPC: one, api.RETC: one, api.JMPCN: !one, api.RETCN: !one}
	leave, known := leaves[i.Op]
	switch {
	case !known:
		p.take(i)
		p.from(at + 1)
	case !leave:
		p.from(at + 1)
	case i.Op <= api.JMPCN:
		p.from(i.At)
	}
}

func (p *plain) is(kind int, v *big.Int) {
	p.kind, p.value = kind, v
}

// take does an instruction that leads to the one behind it.
func (p *plain) take(i api.Instr) {
	switch i.Op {
	case api.LD:
		p.is(i.Kind, p.asked(i))
	case api.LDN:
		p.is(i.Kind, turned(i.Kind, p.asked(i)))
	case api.ST:
		p.put(i.Area, i.At, sizeOf(i.Kind), p.value)
	case api.STN:
		p.put(i.Area, i.At, sizeOf(i.Kind), turned(i.Kind, p.value))
	case api.S, api.R:
		if p.value.Sign() != 0 {
			p.put(i.Area, i.At, 1, number(int64(api.R-i.Op)))
		}
	case api.NOT:
		p.is(p.kind, turned(p.kind, p.value))
	case api.CONV:
		p.is(i.Kind, brought(i.Kind, p.value))
	case api.OPEN:
		kind, first := p.kind, p.value
		p.ends = append(p.ends, func() { p.join(i.At, kind, first, p.value) })
		p.is(0, number(0))
	case api.CLOSE:
		end := p.ends[len(p.ends)-1]
		p.ends = p.ends[:len(p.ends)-1]
		end()
	case api.TON, api.CTU, api.TRIG:
		p.block(i)
	default:
		p.join(i.Op, i.Kind, p.value, p.asked(i))
	}
}

func (p *plain) asked(i api.Instr) *big.Int {
	if i.Area == 0 {
		return number(i.N)
	}
	return brought(i.Kind, p.get(i.Area, i.At, sizeOf(i.Kind)))
}

func (p *plain) get(area, at, size int) *big.Int {
	n := number(0)
	for _, b := range []int{0, 1, 2, 3}[:size] {
		n.Mul(n, number(256))
		n.Add(n, number(int64(p.bytes[area][at+b])))
	}
	return n
}

func (p *plain) put(area, at, size int, v *big.Int) {
	rest := new(big.Int).Mod(v, range256(size))
	for b := at + size - 1; b >= at; b-- {
		low := new(big.Int)
		rest.DivMod(rest, number(256), low)
		p.bytes[area][b] = int(low.Int64())
	}
}

// brought is a number brought into a kind.
func brought(kind int, v *big.Int) *big.Int {
	if kind == api.Bool {
		return number(int64(v.CmpAbs(number(0))))
	}
	all := range256(sizeOf(kind))
	n := new(big.Int).Mod(v, all)
	top := n.Cmp(new(big.Int).Rsh(all, 1)) >= 0
	if top && among("SINT INT DINT", kind) {
		n.Sub(n, all)
	}
	return n
}

// turned is a value with all bits turned: what is missing to the greatest one.
func turned(kind int, v *big.Int) *big.Int {
	return new(big.Int).Sub(number(slices.Max(ends(kind))), v)
}

func (p *plain) join(op, kind int, a, b *big.Int) {
	v := new(big.Int)
	order := a.Cmp(b)
	switch op {
	case api.ADD:
		v.Add(a, b)
	case api.SUB:
		v.Sub(a, b)
	case api.MUL:
		v.Mul(a, b)
	case api.DIV, api.MOD:
		p.divide(op, v, a, b)
	case api.AND:
		v.And(a, b)
	case api.OR:
		v.Or(a, b)
	case api.XOR:
		v.Xor(a, b)
	case api.ANDN:
		v.And(a, turned(kind, b))
	case api.ORN:
		v.Or(a, turned(kind, b))
	case api.XORN:
		v.Xor(a, turned(kind, b))
	default:
		holds := map[int]bool{api.GT: order > 0, api.GE: order >= 0, api.EQ: order == 0, api.NE: order != 0, api.LE: order <= 0, api.LT: order < 0}
		if holds[op] {
			v = number(1)
		}
		kind = api.Bool
	}
	p.is(kind, brought(kind, v))
}

func (p *plain) divide(op int, v, a, b *big.Int) {
	if b.Sign() == 0 {
		p.zero++
		return
	}
	left := new(big.Int)
	v.QuoRem(a, b, left)
	if op == api.MOD {
		v.Set(left)
	}
}

// block does TON, CTU and TRIG, with what they keep as numbers.
func (p *plain) block(i api.Instr) {
	in := p.value.Sign() != 0
	most := number(i.N)
	kept := p.get(i.Area, i.At, 1)
	answer := false
	switch i.Op {
	case api.TON:
		kept = p.get(i.Area, i.At, 4)
		kept.Add(kept, number(int64(min(max(p.passed, 0), 10000))))
		if kept.Cmp(most) > 0 {
			kept = most
		}
		if !in {
			kept = number(0)
		}
		p.put(i.Area, i.At, 4, kept)
		answer = in && kept.Cmp(most) == 0
	case api.CTU:
		kept = p.get(i.Area, i.At, 4)
		if in && p.bytes[i.Area][i.At+4] == 0 {
			kept.Add(kept, number(1))
			if kept.Cmp(most) > 0 {
				kept = most
			}
		}
		p.put(i.Area, i.At, 4, kept)
		p.put(i.Area, i.At+4, 1, p.value)
		answer = kept.Cmp(most) >= 0
	case api.TRIG:
		p.put(i.Area, i.At, 1, p.value)
		answer = in && kept.Sign() == 0
	}
	p.is(api.Bool, number(0))
	if answer {
		p.is(api.Bool, number(1))
	}
}

// lines is the program of its lines, with " / " between; jumps lead to L and a number.
func lines(t *testing.T, text string) []api.Instr {
	t.Helper()
	code := []api.Instr{}
	if text == "" {
		return code
	}
	for _, line := range strings.Split(text, " / ") {
		name, to, _ := strings.Cut(line, " L")
		if op, _ := il.Op(name); isJump(op) {
			n := 0
			fmt.Sscan(to, &n)
			code = append(code, api.Instr{Op: op, At: n})
			continue
		}
		one, e, _ := il.Assemble(line)
		if e != api.OK {
			t.Fatalf("%q: %d", line, e)
		}
		code = append(code, one...)
	}
	return code
}

func isJump(op int) bool {
	return op == api.JMP || op == api.JMPC || op == api.JMPCN
}

func stores(op int) bool {
	return op == api.ST || op == api.STN || op == api.S || op == api.R
}

// show tells a program as a line.
func show(code []api.Instr) string {
	words := []string{}
	for _, i := range code[:min(len(code), 60)] {
		words = append(words, il.Spell(i))
	}
	return fmt.Sprint(len(code), ": ", strings.Join(words, " / "))
}

// loaded is a program that must be one.
func loaded(t *testing.T, code []api.Instr) *Program {
	t.Helper()
	p, e, at := Load(code)
	if p == nil || e != api.OK || at != 0 {
		t.Fatalf("Load(%s) = %v, %d, %d", show(code), p, e, at)
	}
	return p
}

// runs holds a run against the second way, and tells its answer.
func runs(t *testing.T, p *Program, img api.Image, passed int) (api.Image, api.Scan) {
	t.Helper()
	got, scan := p.Run(img, passed)
	wantImg, wantScan := want(p.Code(), img, passed)
	if got != wantImg || scan != wantScan {
		t.Fatalf("%s: Run(%q, %d) =\n%q, %v, want\n%q, %v", show(p.Code()), img, passed, got, scan, wantImg, wantScan)
	}
	return got, scan
}

// filled is an area of these bytes, and bytes 0 behind them.
func filled(area string) string {
	return area + strings.Repeat("\x00", 64-len(area))
}

func filledAll(img api.Image) api.Image {
	return api.Image{I: filled(img.I), Q: filled(img.Q), M: filled(img.M), R: filled(img.R)}
}

// with is areas in one of which these bytes stand.
func with(img api.Image, area, at int, bytes string) api.Image {
	all := areasOf(filledAll(img))
	all[area-1] = all[area-1][:at] + bytes + all[area-1][at+len(bytes):]
	return imageOf(all)
}

// bytesOf are a value's bytes.
func bytesOf(kind int, v int64) string {
	p := &plain{}
	p.put(1, 0, sizeOf(kind), number(v))
	list := []byte{}
	for at := range sizeOf(kind) {
		list = append(list, byte(p.bytes[1][at]))
	}
	return string(list)
}

// ended is how a program is to end: with a value of a kind's name (or of none), behind so many instructions, with so many divisions by 0.
type ended struct {
	text  string
	kind  string
	value int64
	steps int
	zero  int
}

// end holds how programs end, in areas of bytes 0.
func end(t *testing.T, list []ended) {
	t.Helper()
	for _, c := range list {
		_, scan := runs(t, loaded(t, lines(t, c.text)), api.Image{}, 0)
		if scan != (api.Scan{Steps: c.steps, Zero: c.zero, Kind: kindOf(c.kind), Value: c.value}) {
			t.Errorf("%s: %v, want %v", c.text, scan, c)
		}
	}
}

// left is what a program makes of areas, each of them told by its first bytes.
type left struct {
	text string
	from api.Image
	to   api.Image
	scan api.Scan
}

func leave(t *testing.T, list []left) {
	t.Helper()
	for _, c := range list {
		img, scan := runs(t, loaded(t, lines(t, c.text)), c.from, 0)
		if img != filledAll(c.to) || scan != c.scan {
			t.Errorf("%s: %q, %v, want %q, %v", c.text, img, scan, filledAll(c.to), c.scan)
		}
	}
}

func rets(n int) []api.Instr {
	list := make([]api.Instr, n)
	for at := range list {
		list[at] = api.Instr{Op: api.RET}
	}
	return list
}

// long is a program of so many instructions, all of which are done.
func long(n int) []api.Instr {
	list := make([]api.Instr, n)
	for at := range list {
		list[at] = api.Instr{Op: api.ADD, Kind: api.Int, N: int64(at)}
	}
	if n > 0 {
		list[0].Op = api.LD
	}
	return list
}

func TestTheExample(t *testing.T) {
	leave(t, []left{{"LD INT#2 / MUL( / LD INT#3 / ) / ST %Q0:INT", api.Image{}, api.Image{Q: "\x00\x06"}, api.Scan{Steps: 5, Kind: api.Int, Value: 6}}})
}

func TestWhatMayNotRun(t *testing.T) {
	for _, c := range []struct {
		text string
		e    api.Errno
		at   int
	}{
		{"LD INT#1 / AND INT#1", api.ErrType, 1},
		{"ADD INT#1", api.ErrType, 0},
		{"LD BOOL#1 / JMPC L3 / LD INT#1 / CONV INT", api.ErrType, 3},
		{"LD INT#1 / S %Q0:BOOL", api.ErrType, 1},
		{"JMP L0", api.ErrJump, 0},
		{"LD INT#1 / JMP L3", api.ErrJump, 1},
		{"LD BOOL#1 / JMPC L3 / AND( / LD BOOL#1 / )", api.ErrJump, 2},
		{"LD INT#1 / ADD( / LD INT#1", api.ErrForm, 3},
		{"LD INT#1 / )", api.ErrForm, 1},
		{"LD INT#1 / ADD( / RET", api.ErrForm, 2},
		{"LD INT#1" + strings.Repeat(" / ADD( / LD INT#1", 9), api.ErrFull, 17},
	} {
		refused(t, lines(t, c.text), c.e, c.at)
	}
	refused(t, []api.Instr{{}}, api.ErrForm, 0)
	refused(t, []api.Instr{{Op: api.RET}, {Op: 37}}, api.ErrForm, 1)
	refused(t, []api.Instr{{Op: api.ST, Kind: api.Int, Area: api.Input}}, api.ErrForm, 0)
	refused(t, []api.Instr{{Op: api.LD, Kind: api.Int, Area: api.Input, At: 63}}, api.ErrForm, 0)
	refused(t, []api.Instr{{Op: math.MinInt, Kind: math.MaxInt, Area: math.MinInt, At: math.MaxInt, N: math.MinInt64}}, api.ErrForm, 0)
}

func refused(t *testing.T, code []api.Instr, wantE api.Errno, wantAt int) {
	t.Helper()
	p, e, at := Load(code)
	if p != nil || e != wantE || at != wantAt {
		t.Errorf("Load(%s) = %v, %d, %d, want %d, %d", show(code), p, e, at, wantE, wantAt)
	}
	if known, n := verify.Check(code); known != wantE || n != wantAt {
		t.Errorf("Check(%s) = %d, %d", show(code), known, n)
	}
}

func TestLengths(t *testing.T) {
	for _, code := range [][]api.Instr{nil, {}, long(5)[:0]} {
		p := loaded(t, code)
		if len(p.Code()) != 0 {
			t.Errorf("no instruction: %v", p.Code())
		}
		for _, img := range []api.Image{{}, {I: "a", Q: "bc", M: "d", R: "e"}} {
			if got, scan := runs(t, p, img, 5); got != filledAll(img) || scan != (api.Scan{}) {
				t.Errorf("no instruction: %q, %v", got, scan)
			}
		}
	}
	for _, n := range []int{1, 2, 3, 17, 199, 200} {
		code := long(n)
		p := loaded(t, code)
		if !slices.Equal(p.Code(), code) {
			t.Errorf("%d instructions: %v", n, p.Code())
		}
		_, scan := runs(t, p, api.Image{}, 0)
		if scan != (api.Scan{Steps: n, Kind: api.Int, Value: int64(n * (n - 1) / 2)}) {
			t.Errorf("%d instructions: %v", n, scan)
		}
		if _, scan := runs(t, loaded(t, rets(n)), api.Image{}, 0); scan != (api.Scan{Steps: 1}) {
			t.Errorf("%d RET: %v", n, scan)
		}
	}
	for _, n := range []int{201, 202, 255, 256, 257, 400, 1 << 16} {
		refused(t, long(n), api.ErrLong, 200)
		refused(t, rets(n), api.ErrLong, 200)
		refused(t, make([]api.Instr, n), api.ErrLong, 200)
	}
}

func TestCodeStaysAsItIs(t *testing.T) {
	given := lines(t, "LD INT#2 / ADD INT#3 / ST %Q0:INT")
	kept := slices.Clone(given)
	p := loaded(t, given)
	first := p.Code()
	clear(given)
	second := p.Code()
	for at := range second {
		second[at] = api.Instr{Op: api.CLOSE}
	}
	second = append(second[:1], rets(4)...)
	third := p.Code()
	p.Run(Blank(), 0)
	loaded(t, rets(3)).Run(Blank(), 0)
	fourth := p.Code()
	for _, code := range [][]api.Instr{first, third, fourth} {
		if !slices.Equal(code, kept) {
			t.Errorf("%s, want %s", show(code), show(kept))
		}
	}
	if _, scan := runs(t, p, api.Image{}, 0); scan != (api.Scan{Steps: 3, Kind: api.Int, Value: 5}) {
		t.Errorf("%v", scan)
	}
	if second[4].Op != api.RET {
		t.Error("what was answered first was changed by what came behind it")
	}
}

// TestWhatIsHandedInStays looks at what lies behind the slice's end, too.
func TestWhatIsHandedInStays(t *testing.T) {
	for _, n := range []int{0, 1, 2, 50, 199, 200, 201, 300} {
		all := append(long(300), rets(10)...)
		kept := slices.Clone(all)
		p, _, _ := Load(all[:n])
		p.Run(Blank(), 3)
		code := p.Code()
		_ = append(code, api.Instr{Op: api.CLOSE})
		clear(code)
		if !slices.Equal(all, kept) {
			t.Errorf("a program of %d was changed", n)
		}
	}
}

func TestNoProgram(t *testing.T) {
	var none *Program
	if none.Code() != nil {
		t.Error("Code of none")
	}
	for _, passed := range []int{math.MinInt, -1, 0, 1, 10001, math.MaxInt} {
		img := api.Image{I: "abc", Q: strings.Repeat("x", 70), R: "\x00"}
		got, scan := none.Run(img, passed)
		if got != (api.Image{I: filled("abc"), Q: strings.Repeat("x", 64), M: filled(""), R: filled("")}) || scan != (api.Scan{}) {
			t.Errorf("Run of none: %q, %v", got, scan)
		}
	}
	zero := new(Program)
	if got, scan := zero.Run(api.Image{M: "m"}, 1); got != filledAll(api.Image{M: "m"}) || scan != (api.Scan{}) || len(zero.Code()) != 0 {
		t.Error("a Program that wasn't loaded")
	}
}

// lettered is an area of so many bytes, no two of which that stand near each other are alike.
func lettered(n int) string {
	list := make([]byte, n)
	for at := range list {
		list[at] = byte(at*7 + 1)
	}
	return string(list)
}

// cut is an area brought to 64 bytes.
func cut(area string) string {
	return (area + strings.Repeat("\x00", 64))[:64]
}

// TestLengthsOfAreas takes each length for each area, with others beside it.
func TestLengthsOfAreas(t *testing.T) {
	lengths := []int{0, 1, 2, 32, 63, 64, 65, 127, 128, 129, 5000}
	var none *Program
	copies := loaded(t, lines(t, "LD %I63:SINT / ST %Q63:SINT / LD %M60:DWORD / ST %R59:DWORD / LD %I0:BOOL"))
	empty := loaded(t, nil)
	for area := range 4 {
		for _, n := range lengths {
			for _, others := range lengths {
				given := [4]string{lettered(others), lettered(others), lettered(others), lettered(others)}
				given[area] = lettered(n)
				img := imageOf(given)
				for a, text := range given {
					given[a] = cut(text)
				}
				fits := imageOf(given)
				if got := Fit(img); got != fits {
					t.Fatalf("Fit of %d beside %d: %q", n, others, got)
				}
				if got, scan := none.Run(img, 0); got != fits || scan != (api.Scan{}) {
					t.Fatalf("Run of none with %d beside %d: %q", n, others, got)
				}
				if got, _ := empty.Run(img, 0); got != fits {
					t.Fatalf("Run with %d beside %d: %q", n, others, got)
				}
				runs(t, copies, img, 0)
				if got, scan := copies.Run(img, 0); got.I != fits.I || got.Q != fits.Q[:63]+fits.I[63:] || got.R != fits.R[:59]+fits.M[60:]+fits.R[63:] || scan.Steps != 5 {
					t.Fatalf("Run of copies with %d beside %d: %q", n, others, got)
				}
			}
		}
	}
}

func TestBlankAndFit(t *testing.T) {
	zeros := strings.Repeat("\x00", 64)
	if Blank() != (api.Image{I: zeros, Q: zeros, M: zeros, R: zeros}) || Fit(api.Image{}) != Blank() || Fit(Blank()) != Blank() {
		t.Errorf("%q", Blank())
	}
	full := strings.Repeat("\xff", 64)
	img := api.Image{I: full + "1", Q: "q", M: full[1:], R: full}
	if got := Fit(img); got != (api.Image{I: full, Q: "q" + zeros[1:], M: full[1:] + "\x00", R: full}) {
		t.Errorf("%q", got)
	}
	if got := Fit(api.Image{I: "i", Q: "q", M: "m", R: "r"}); got.I[0] != 'i' || got.Q[0] != 'q' || got.M[0] != 'm' || got.R[0] != 'r' {
		t.Errorf("%q", got)
	}
}

// joins are the operations that make one value of two of a kind.
func joins(kind int) []int {
	list := []int{api.GT, api.GE, api.EQ, api.NE, api.LE, api.LT}
	if among(numbers, kind) {
		return append(list, api.ADD, api.SUB, api.MUL, api.DIV, api.MOD)
	}
	return append(list, api.AND, api.OR, api.XOR, api.ANDN, api.ORN, api.XORN)
}

// spots are the first, the second and the last place of a kind in an area.
func spots(kind int) []int {
	return []int{0, 1, 64 - sizeOf(kind)}
}

// TestLoadsOfEachKind loads each value at a kind's ends: as a number, and from each area.
func TestLoadsOfEachKind(t *testing.T) {
	asked := 0
	for kind := 1; kind <= 7; kind++ {
		for _, v := range ends(kind) {
			one := loaded(t, []api.Instr{{Op: api.LD, Kind: kind, N: v}})
			if _, scan := runs(t, one, api.Image{}, 0); scan != (api.Scan{Steps: 1, Kind: kind, Value: v}) {
				t.Fatalf("LD %s#%d: %v", nameOf(kind), v, scan)
			}
			for area := api.Input; area <= api.Retain; area++ {
				for _, at := range spots(kind) {
					one := loaded(t, []api.Instr{{Op: api.LD, Kind: kind, Area: area, At: at}})
					img := with(noise(), area, at, bytesOf(kind, v))
					got, scan := runs(t, one, img, 0)
					if got != img || scan != (api.Scan{Steps: 1, Kind: kind, Value: v}) {
						t.Fatalf("LD of %d at %d of %d: %v", v, at, area, scan)
					}
					asked++
				}
			}
		}
	}
	if asked != 12*(2+6*9) {
		t.Errorf("%d were loaded", asked)
	}
}

// noise is areas full of bytes that differ.
func noise() api.Image {
	d := dice(77)
	var all [4]string
	for n := range all {
		list := make([]byte, 64)
		for at := range list {
			list[at] = byte(d.next())
		}
		all[n] = string(list)
	}
	return imageOf(all)
}

func TestLoadsOfBool(t *testing.T) {
	for b := range 256 {
		want := int64(min(b, 1))
		img := api.Image{M: "\x00" + string([]byte{byte(b)}) + "\x00"}
		for op, v := range map[int]int64{api.LD: want, api.LDN: 1 - want} {
			p := loaded(t, []api.Instr{{Op: op, Kind: api.Bool, Area: api.Memory, At: 1}, {Op: api.ST, Kind: api.Bool, Area: api.Output}})
			got, scan := runs(t, p, img, 0)
			if scan.Kind != api.Bool || scan.Value != v || got.Q[0] != byte(v) || got.M != filled(img.M) {
				t.Errorf("a byte %d: %v", b, scan)
			}
		}
	}
}

// TestNotOfEachKind turns each value of a kind of logic: as it is loaded, as a result, and as it is kept.
func TestNotOfEachKind(t *testing.T) {
	for _, kind := range []int{api.Bool, api.Word, api.Dword} {
		top := slices.Max(ends(kind))
		for _, v := range ends(kind) {
			for area := api.Input; area <= api.Retain; area++ {
				for _, at := range spots(kind) {
					img := with(noise(), area, at, bytesOf(kind, v))
					p := loaded(t, []api.Instr{{Op: api.LDN, Kind: kind, Area: area, At: at}})
					if got, scan := runs(t, p, img, 0); got != img || scan != (api.Scan{Steps: 1, Kind: kind, Value: top - v}) {
						t.Fatalf("LDN of %d: %v", v, scan)
					}
					if area == api.Input {
						continue
					}
					p = loaded(t, []api.Instr{{Op: api.LD, Kind: kind, N: v}, {Op: api.STN, Kind: kind, Area: area, At: at}})
					if got, scan := runs(t, p, img, 0); got != with(img, area, at, bytesOf(kind, top-v)) || scan != (api.Scan{Steps: 2, Kind: kind, Value: v}) {
						t.Fatalf("STN of %d: %q, %v", v, got, scan)
					}
				}
			}
			p := loaded(t, []api.Instr{{Op: api.LDN, Kind: kind, N: v}, {Op: api.NOT}, {Op: api.NOT}})
			if _, scan := runs(t, p, api.Image{}, 0); scan != (api.Scan{Steps: 3, Kind: kind, Value: top - v}) {
				t.Fatalf("LDN %d: %v", v, scan)
			}
		}
	}
	end(t, []ended{
		{"LDN BOOL#0", "BOOL", 1, 1, 0},
		{"LDN BOOL#1", "BOOL", 0, 1, 0},
		{"LDN WORD#61680", "WORD", 3855, 1, 0},
		{"LD DWORD#1 / NOT", "DWORD", 4294967294, 2, 0},
	})
}

// TestStoresOfEachKind keeps each value at a kind's ends: in all areas but the inputs.
func TestStoresOfEachKind(t *testing.T) {
	for kind := 1; kind <= 7; kind++ {
		for _, v := range ends(kind) {
			for area := api.Output; area <= api.Retain; area++ {
				for _, at := range spots(kind) {
					p := loaded(t, []api.Instr{{Op: api.LD, Kind: kind, N: v}, {Op: api.ST, Kind: kind, Area: area, At: at}})
					got, scan := runs(t, p, noise(), 0)
					if got != with(noise(), area, at, bytesOf(kind, v)) || scan != (api.Scan{Steps: 2, Kind: kind, Value: v}) {
						t.Fatalf("ST of %d at %d of %d: %q, %v", v, at, area, got, scan)
					}
				}
			}
		}
	}
	leave(t, []left{
		{"LD INT#-2 / ST %Q0:INT / LD DINT#66051 / ST %M0:DINT", api.Image{}, api.Image{Q: "\xff\xfe", M: "\x00\x01\x02\x03"}, api.Scan{Steps: 4, Kind: api.Dint, Value: 66051}},
		{"LD DWORD#4278255360 / ST %R1:DWORD / LD SINT#-128 / ST %R5:SINT", api.Image{R: "ab"}, api.Image{R: "a\xff\x00\xff\x00\x80"}, api.Scan{Steps: 4, Kind: api.Sint, Value: -128}},
	})
}

// TestSetAndReset has all bytes ahead of them, and a result of 1 and of 0.
func TestSetAndReset(t *testing.T) {
	for area := api.Output; area <= api.Retain; area++ {
		for _, at := range []int{0, 1, 31, 62, 63} {
			for b := range 256 {
				img := with(noise(), area, at, string([]byte{byte(b)}))
				for op, to := range map[int]string{api.S: "\x01", api.R: "\x00"} {
					for result := range int64(2) {
						p := loaded(t, []api.Instr{{Op: api.LD, Kind: api.Bool, N: result}, {Op: op, Kind: api.Bool, Area: area, At: at}})
						want := img
						if result == 1 {
							want = with(img, area, at, to)
						}
						if got, scan := p.Run(img, 0); got != want || scan != (api.Scan{Steps: 2, Kind: api.Bool, Value: result}) {
							t.Fatalf("%s with %d, over %d: %q, %v", show(p.Code()), result, b, got, scan)
						}
					}
				}
			}
		}
	}
	leave(t, []left{
		{"LD BOOL#1 / S %Q0:BOOL / R %Q1:BOOL / S %Q2:BOOL / NOT / S %Q3:BOOL / R %Q4:BOOL / R %Q2:BOOL", api.Image{Q: "\x07\x07\x07\x07\x07"}, api.Image{Q: "\x01\x00\x01\x07\x07"}, api.Scan{Steps: 8, Kind: api.Bool}},
	})
}

// TestJoinsAtTheEnds does each operation with each two values at a kind's ends: with a number, with a place, and within a bracket.
func TestJoinsAtTheEnds(t *testing.T) {
	d := dice(3)
	asked := 0
	for kind := 1; kind <= 7; kind++ {
		for _, op := range joins(kind) {
			for _, a := range ends(kind) {
				for _, b := range ends(kind) {
					first := api.Instr{Op: api.LD, Kind: kind, N: a}
					area, at := 1+d.below(4), anyOf(&d, spots(kind))
					img := with(noise(), area, at, bytesOf(kind, b))
					_, scan := runs(t, loaded(t, []api.Instr{first, {Op: op, Kind: kind, N: b}}), img, 0)
					_, same := runs(t, loaded(t, []api.Instr{first, {Op: op, Kind: kind, Area: area, At: at}}), img, 0)
					_, third := runs(t, loaded(t, []api.Instr{first, {Op: api.OPEN, At: op}, {Op: api.LD, Kind: kind, Area: area, At: at}, {Op: api.CLOSE}}), img, 0)
					third.Steps = 2
					if same != scan || third != scan {
						t.Fatalf("%d of %d and %d: %v, %v, %v", op, a, b, scan, same, third)
					}
					asked++
				}
			}
		}
	}
	if asked != 4*11*81+2*12*81+12*4 {
		t.Errorf("%d were asked", asked)
	}
}

// TestJoinsFromEachPlace does each operation with a value in each area.
func TestJoinsFromEachPlace(t *testing.T) {
	for kind := 1; kind <= 7; kind++ {
		for _, op := range joins(kind) {
			for area := api.Input; area <= api.Retain; area++ {
				for at := range 65 - sizeOf(kind) {
					p := loaded(t, []api.Instr{{Op: api.LD, Kind: kind, Area: 5 - area, At: at}, {Op: op, Kind: kind, Area: area, At: at}})
					img := noise()
					if got, _ := runs(t, p, img, 0); got != img {
						t.Fatalf("%s wrote", show(p.Code()))
					}
				}
			}
		}
	}
}

func TestJoinsOfNumbers(t *testing.T) {
	end(t, []ended{
		{"LD SINT#127 / ADD SINT#1", "SINT", -128, 2, 0},
		{"LD SINT#-128 / SUB SINT#1", "SINT", 127, 2, 0},
		{"LD SINT#-128 / MUL SINT#-1", "SINT", -128, 2, 0},
		{"LD SINT#-128 / DIV SINT#-1", "SINT", -128, 2, 0},
		{"LD SINT#-128 / MOD SINT#-1", "SINT", 0, 2, 0},
		{"LD INT#32767 / MUL INT#2", "INT", -2, 2, 0},
		{"LD INT#-7 / DIV INT#2", "INT", -3, 2, 0},
		{"LD INT#-7 / MOD INT#2", "INT", -1, 2, 0},
		{"LD INT#7 / MOD INT#-2", "INT", 1, 2, 0},
		{"LD DINT#2147483647 / ADD DINT#1", "DINT", -2147483648, 2, 0},
		{"LD DINT#-2147483648 / DIV DINT#-1", "DINT", -2147483648, 2, 0},
		{"LD DINT#2147483647 / MUL DINT#2147483647", "DINT", 1, 2, 0},
		{"LD UINT#65535 / ADD UINT#1", "UINT", 0, 2, 0},
		{"LD UINT#0 / SUB UINT#1", "UINT", 65535, 2, 0},
		{"LD UINT#65535 / MUL UINT#65535", "UINT", 1, 2, 0},
		{"LD UINT#65535 / DIV UINT#2", "UINT", 32767, 2, 0},
		{"LD WORD#61680 / AND WORD#4080", "WORD", 240, 2, 0},
		{"LD WORD#61680 / OR WORD#4080", "WORD", 65520, 2, 0},
		{"LD WORD#61680 / XOR WORD#4080", "WORD", 65280, 2, 0},
		{"LD WORD#61680 / ANDN WORD#4080", "WORD", 61440, 2, 0},
		{"LD WORD#61680 / ORN WORD#4080", "WORD", 61695, 2, 0},
		{"LD WORD#61680 / XORN WORD#4080", "WORD", 255, 2, 0},
		{"LD BOOL#0 / ORN BOOL#0", "BOOL", 1, 2, 0},
		{"LD BOOL#1 / ANDN BOOL#1", "BOOL", 0, 2, 0},
		{"LD BOOL#0 / XORN BOOL#0", "BOOL", 1, 2, 0},
		{"LD BOOL#1 / XORN BOOL#0", "BOOL", 0, 2, 0},
		{"LD DWORD#4294967295 / GT DWORD#1", "BOOL", 1, 2, 0},
		{"LD DINT#-1 / GT DINT#1", "BOOL", 0, 2, 0},
		{"LD INT#5 / GE INT#5", "BOOL", 1, 2, 0},
		{"LD INT#5 / EQ INT#-5", "BOOL", 0, 2, 0},
		{"LD INT#5 / NE INT#-5", "BOOL", 1, 2, 0},
		{"LD INT#5 / LE INT#4", "BOOL", 0, 2, 0},
		{"LD BOOL#0 / LT BOOL#1", "BOOL", 1, 2, 0},
		// What comes first is the result, not what is asked for.
		{"LD INT#5 / SUB INT#3", "INT", 2, 2, 0},
		{"LD INT#5 / SUB( / LD INT#3 / )", "INT", 2, 4, 0},
		{"LD INT#50 / MOD( / LD INT#7 / )", "INT", 1, 4, 0},
		{"LD INT#5 / LT( / LD INT#7 / )", "BOOL", 1, 4, 0},
		// Behind an order what is done is done with a BOOL.
		{"LD INT#5 / GT INT#3 / GT BOOL#0 / LE BOOL#0", "BOOL", 0, 4, 0},
		{"LD INT#5 / GT INT#3 / NOT", "BOOL", 0, 3, 0},
		{"LD INT#5 / GT INT#3 / CONV WORD / NOT", "WORD", 65534, 4, 0},
		{"LD INT#5 / GT( / LD INT#3 / ) / NOT", "BOOL", 0, 5, 0},
	})
}

func TestDivisionsByZero(t *testing.T) {
	end(t, []ended{
		{"LD INT#5 / DIV INT#0", "INT", 0, 2, 1},
		{"LD INT#5 / MOD INT#0", "INT", 0, 2, 1},
		{"LD INT#0 / DIV INT#0", "INT", 0, 2, 1},
		{"LD INT#5 / DIV %I0:INT", "INT", 0, 2, 1},
		{"LD SINT#-5 / MOD %R63:SINT", "SINT", 0, 2, 1},
		{"LD INT#0 / DIV INT#5 / MOD INT#5", "INT", 0, 3, 0},
		{"LD DINT#5 / DIV DINT#0 / ADD DINT#3 / MOD DINT#0 / DIV DINT#0", "DINT", 0, 5, 3},
		{"LD UINT#5 / DIV( / LD UINT#0 / )", "UINT", 0, 4, 1},
		{"LD UINT#5 / MOD( / LD UINT#0 / )", "UINT", 0, 4, 1},
		{"LD UINT#0 / DIV( / LD UINT#5 / )", "UINT", 0, 4, 0},
		{"LD INT#5 / DIV( / LD INT#7 / MOD( / LD INT#0 / ) / DIV INT#0 / )", "INT", 0, 8, 3},
		{"LD INT#0 / ADD INT#0 / SUB INT#0 / MUL INT#0 / GT INT#0", "BOOL", 0, 5, 0},
		{"LD INT#5 / ADD( / LD INT#0 / ) / MUL( / LD INT#0 / ) / EQ( / LD INT#0 / )", "BOOL", 1, 10, 0},
		{"LD BOOL#0 / AND BOOL#0 / ANDN( / LD BOOL#0 / )", "BOOL", 0, 5, 0},
		{"LD INT#5 / RET / DIV INT#0", "INT", 5, 2, 0},
	})
	// As often as there is a place for.
	code := long(200)
	for at := 1; at < 200; at++ {
		code[at] = api.Instr{Op: api.DIV + at%2, Kind: api.Int}
	}
	if _, scan := runs(t, loaded(t, code), api.Image{}, 0); scan != (api.Scan{Steps: 200, Zero: 199, Kind: api.Int}) {
		t.Errorf("%v", scan)
	}
}

func TestJumps(t *testing.T) {
	end(t, []ended{
		{"JMP L1", "", 0, 1, 0},
		{"JMP L2 / LD INT#5", "", 0, 1, 0},
		{"JMP L1 / LD INT#5", "INT", 5, 2, 0},
		{"LD INT#1 / JMP L2 / ADD INT#1", "INT", 2, 3, 0},
		{"LD INT#1 / JMP L4 / ADD INT#1 / ADD INT#2 / ADD INT#4 / ADD INT#8", "INT", 13, 4, 0},
		{"LD INT#1 / JMP L3 / ADD INT#1", "INT", 1, 2, 0},
		{"LD INT#1 / JMP L3 / RET / JMP L5 / ADD INT#1", "INT", 1, 3, 0},
		{"LD BOOL#1 / JMPC L2 / NOT", "BOOL", 0, 3, 0},
		{"LD BOOL#0 / JMPC L2 / NOT", "BOOL", 1, 3, 0},
		{"LD BOOL#1 / JMPC L3 / NOT / S %Q0:BOOL", "BOOL", 1, 3, 0},
		{"LD BOOL#0 / JMPC L3 / NOT / S %Q0:BOOL", "BOOL", 1, 4, 0},
		{"LD BOOL#1 / JMPC L4 / NOT / S %Q0:BOOL", "BOOL", 1, 2, 0},
		{"LD BOOL#0 / JMPC L4 / NOT / S %Q0:BOOL", "BOOL", 1, 4, 0},
		{"LD BOOL#1 / JMPCN L2 / NOT", "BOOL", 0, 3, 0},
		{"LD BOOL#0 / JMPCN L2 / NOT", "BOOL", 1, 3, 0},
		{"LD BOOL#1 / JMPCN L3 / NOT / S %Q0:BOOL", "BOOL", 0, 4, 0},
		{"LD BOOL#0 / JMPCN L3 / NOT / S %Q0:BOOL", "BOOL", 0, 3, 0},
		{"LD BOOL#1 / JMPCN L4 / NOT / S %Q0:BOOL", "BOOL", 0, 4, 0},
		{"LD BOOL#0 / JMPCN L4 / NOT / S %Q0:BOOL", "BOOL", 0, 2, 0},
		{"LD BOOL#1 / JMPC L3 / JMP L4 / NOT / NOT", "BOOL", 1, 4, 0},
		{"LD BOOL#1 / JMPCN L3 / JMP L4 / NOT / NOT", "BOOL", 0, 4, 0},
	})
	// One in each two is skipped, up to the end; and one that leads over all the others.
	hops := rets(200)
	for at := 0; at < 200; at += 2 {
		hops[at] = api.Instr{Op: api.JMP, At: at + 2}
	}
	if _, scan := runs(t, loaded(t, hops), api.Image{}, 0); scan != (api.Scan{Steps: 100}) {
		t.Errorf("%v", scan)
	}
	hops[0].At = 200
	if _, scan := runs(t, loaded(t, hops), api.Image{}, 0); scan != (api.Scan{Steps: 1}) {
		t.Errorf("%v", scan)
	}
}

func TestReturns(t *testing.T) {
	end(t, []ended{
		{"RET", "", 0, 1, 0},
		{"RET / LD INT#1", "", 0, 1, 0},
		{"LD INT#1 / RET / ADD INT#1", "INT", 1, 2, 0},
		{"LD BOOL#1 / RETC / NOT", "BOOL", 1, 2, 0},
		{"LD BOOL#0 / RETC / NOT", "BOOL", 1, 3, 0},
		{"LD BOOL#1 / RETCN / NOT", "BOOL", 0, 3, 0},
		{"LD BOOL#0 / RETCN / NOT", "BOOL", 0, 2, 0},
		{"LD BOOL#1 / RETC", "BOOL", 1, 2, 0},
		{"LD BOOL#0 / RETC", "BOOL", 0, 2, 0},
		{"LD BOOL#0 / RETC / RETCN / RET", "BOOL", 0, 3, 0},
	})
	leave(t, []left{
		{"LD BOOL#1 / S %Q0:BOOL / RETC / S %Q1:BOOL", api.Image{}, api.Image{Q: "\x01"}, api.Scan{Steps: 3, Kind: api.Bool, Value: 1}},
		{"LD %I0:BOOL / RETCN / S %Q1:BOOL", api.Image{I: "\x02"}, api.Image{I: "\x02", Q: "\x00\x01"}, api.Scan{Steps: 3, Kind: api.Bool, Value: 1}},
	})
}

// TestConversions brings each value at each kind's ends into each kind.
func TestConversions(t *testing.T) {
	for from := 1; from <= 7; from++ {
		for to := 1; to <= 7; to++ {
			for _, v := range ends(from) {
				p := loaded(t, []api.Instr{{Op: api.LD, Kind: from, N: v}, {Op: api.CONV, Kind: to}, {Op: api.ST, Kind: to, Area: api.Memory, At: 3}})
				runs(t, p, noise(), 0)
			}
		}
	}
	end(t, []ended{
		{"LD INT#-1 / CONV DWORD", "DWORD", 4294967295, 2, 0},
		{"LD INT#-1 / CONV UINT", "UINT", 65535, 2, 0},
		{"LD UINT#65535 / CONV INT", "INT", -1, 2, 0},
		{"LD UINT#65535 / CONV DINT", "DINT", 65535, 2, 0},
		{"LD DWORD#4294967168 / CONV SINT", "SINT", -128, 2, 0},
		{"LD DINT#256 / CONV SINT", "SINT", 0, 2, 0},
		{"LD DINT#256 / CONV BOOL", "BOOL", 1, 2, 0},
		{"LD SINT#-1 / CONV BOOL / CONV DINT", "DINT", 1, 3, 0},
		{"LD DINT#0 / CONV BOOL", "BOOL", 0, 2, 0},
		{"LD DINT#65536 / CONV WORD / CONV DINT", "DINT", 0, 3, 0},
		{"LD DINT#5 / CONV DINT", "DINT", 5, 2, 0},
	})
}

// TestDeepBrackets opens eight within one another of each operation that leaves its kind, and one of order at last.
func TestDeepBrackets(t *testing.T) {
	d := dice(8)
	for kind := 1; kind <= 7; kind++ {
		for _, op := range joins(kind) {
			for range 20 {
				order := op >= api.GT && op <= api.LT
				code := []api.Instr{}
				for deep := range 9 {
					code = append(code, api.Instr{Op: api.LD, Kind: kind, N: anyOf(&d, ends(kind))})
					if deep < 8 {
						code = append(code, api.Instr{Op: api.OPEN, At: op})
					}
				}
				for range 8 {
					code = append(code, api.Instr{Op: api.CLOSE})
					if order {
						code = append(code, api.Instr{Op: api.CONV, Kind: kind})
					}
				}
				_, scan := runs(t, loaded(t, code), api.Image{}, 0)
				if scan.Kind != kind || scan.Steps != len(code) {
					t.Fatalf("%s: %v", show(code), scan)
				}
			}
		}
	}
	end(t, []ended{
		{"LD INT#100" + strings.Repeat(" / SUB( / LD INT#10", 8) + strings.Repeat(" / )", 8), "INT", 100, 25, 0},
		{"LD INT#100" + strings.Repeat(" / SUB( / LD INT#10", 7) + strings.Repeat(" / )", 7), "INT", 90, 22, 0},
		{"LD INT#1 / SUB( / LD INT#2 / MUL( / LD INT#3 / ) / ADD( / LD INT#4 / ) / )", "INT", -9, 10, 0},
		{"LD BOOL#1 / AND( / LD INT#3 / GT( / LD INT#2 / ) / )", "BOOL", 1, 7, 0},
		{"LD BOOL#1 / ANDN( / LD DINT#3 / GT( / LD DINT#2 / ) / )", "BOOL", 0, 7, 0},
		{"LD DWORD#1 / EQ( / LD DWORD#2 / XOR DWORD#3 / )", "BOOL", 1, 5, 0},
	})
}

// TestJumpsAcrossBrackets lead from within one into another one that has the same operation and kind: what the first one had is in it.
func TestJumpsAcrossBrackets(t *testing.T) {
	text := "LD INT#10 / ADD( / LD %I0:BOOL / JMPC L7 / LD INT#1 / ) / ADD( / LD INT#5 / )"
	leave(t, []left{
		{text, api.Image{I: "\x01"}, api.Image{I: "\x01"}, api.Scan{Steps: 6, Kind: api.Int, Value: 15}},
		{text, api.Image{I: "\x00"}, api.Image{I: "\x00"}, api.Scan{Steps: 9, Kind: api.Int, Value: 16}},
	})
	text = "LD %I0:BOOL / JMPC L5 / LD INT#7 / MUL( / JMP L7 / LD INT#9 / MUL( / LD INT#2 / )"
	leave(t, []left{
		{text, api.Image{I: "\x01"}, api.Image{I: "\x01"}, api.Scan{Steps: 6, Kind: api.Int, Value: 18}},
		{text, api.Image{I: "\x00"}, api.Image{I: "\x00"}, api.Scan{Steps: 7, Kind: api.Int, Value: 14}},
	})
}

// TestUnlikeResultsMeet ends behind a place where the kinds of the ways' results differ: the one of the way that was gone is the run's.
func TestUnlikeResultsMeet(t *testing.T) {
	for _, c := range []struct {
		text      string
		one, zero api.Scan
	}{
		{"LD %I0:BOOL / JMPC L3 / LD INT#5", api.Scan{Steps: 2, Kind: api.Bool, Value: 1}, api.Scan{Steps: 3, Kind: api.Int, Value: 5}},
		{"LD %I0:BOOL / JMPCN L4 / LD WORD#6 / RET", api.Scan{Steps: 4, Kind: api.Word, Value: 6}, api.Scan{Steps: 2, Kind: api.Bool}},
		{"LD %I0:BOOL / JMPC L3 / LD INT#5 / RET", api.Scan{Steps: 3, Kind: api.Bool, Value: 1}, api.Scan{Steps: 4, Kind: api.Int, Value: 5}},
		{"LD %I0:BOOL / JMPC L3 / LD INT#5 / JMP L4", api.Scan{Steps: 3, Kind: api.Bool, Value: 1}, api.Scan{Steps: 4, Kind: api.Int, Value: 5}},
		{"LD %I0:BOOL / JMPC L4 / LD SINT#5 / JMP L5 / LD DINT#9", api.Scan{Steps: 3, Kind: api.Dint, Value: 9}, api.Scan{Steps: 4, Kind: api.Sint, Value: 5}},
		{"LD %I0:BOOL / JMPC L3 / LD INT#5 / LD UINT#8", api.Scan{Steps: 3, Kind: api.Uint, Value: 8}, api.Scan{Steps: 4, Kind: api.Uint, Value: 8}},
		{"LD %I0:BOOL / RETC / LD DWORD#5", api.Scan{Steps: 2, Kind: api.Bool, Value: 1}, api.Scan{Steps: 3, Kind: api.Dword, Value: 5}},
	} {
		p := loaded(t, lines(t, c.text))
		if _, scan := runs(t, p, api.Image{I: "\x01"}, 0); scan != c.one {
			t.Errorf("%s with 1: %v, want %v", c.text, scan, c.one)
		}
		if _, scan := runs(t, p, api.Image{}, 0); scan != c.zero {
			t.Errorf("%s with 0: %v, want %v", c.text, scan, c.zero)
		}
	}
	end(t, []ended{
		{"", "", 0, 0, 0},
		{"LD INT#0", "INT", 0, 1, 0},
		{"LD INT#7 / ST %Q0:INT", "INT", 7, 2, 0},
		{"JMP L2 / LD INT#1", "", 0, 1, 0},
	})
}

func TestReadsWhatOneAheadWrote(t *testing.T) {
	last := strings.Repeat("\x00", 63)
	leave(t, []left{
		{"LD INT#258 / ST %M0:INT / LD %M0:SINT / ST %M1:SINT / LD %M0:INT", api.Image{}, api.Image{M: "\x01\x01"}, api.Scan{Steps: 5, Kind: api.Int, Value: 257}},
		{"LD DWORD#16909060 / ST %Q0:DWORD / ST %Q2:DWORD / LD %Q1:DWORD", api.Image{}, api.Image{Q: "\x01\x02\x01\x02\x03\x04"}, api.Scan{Steps: 4, Kind: api.Dword, Value: 0x02010203}},
		{"LD %Q0:WORD / STN %Q1:WORD / LD %Q0:WORD / STN %Q1:WORD", api.Image{Q: "\x0f\xf0\xaa"}, api.Image{Q: "\x0f\xf0\x0f"}, api.Scan{Steps: 4, Kind: api.Word, Value: 0x0ff0}},
		{"LD SINT#1 / ST %R0:SINT / ADD %R0:SINT / ST %R0:SINT / ADD %R0:SINT / ST %R0:SINT", api.Image{R: "\x09"}, api.Image{R: "\x04"}, api.Scan{Steps: 6, Kind: api.Sint, Value: 4}},
		{"LD BOOL#1 / S %M5:BOOL / LD %M4:INT / ADD %M4:INT", api.Image{}, api.Image{M: "\x00\x00\x00\x00\x00\x01"}, api.Scan{Steps: 4, Kind: api.Int, Value: 2}},
		{"LD BOOL#1 / TRIG %M4 / LD BOOL#1 / CTU %M0,9 / LD %M0:DWORD", api.Image{}, api.Image{M: "\x00\x00\x00\x00\x01"}, api.Scan{Steps: 5, Kind: api.Dword}},
		{"LD BOOL#1 / CTU %M0,9 / LD %M3:SINT", api.Image{}, api.Image{M: "\x00\x00\x00\x01\x01"}, api.Scan{Steps: 3, Kind: api.Sint, Value: 1}},
		{"LD %Q63:SINT / ADD SINT#1 / ST %Q63:SINT / ST %R0:SINT / LD %R0:WORD", api.Image{Q: last + "\x7f", R: "\x01\x02"}, api.Image{Q: last + "\x80", R: "\x80\x02"}, api.Scan{Steps: 5, Kind: api.Word, Value: 0x8002}},
	})
}

// turn is one run of a program with one block: what had passed, what IN was, which bytes the block leaves, and what its result is.
type turn struct {
	passed int
	in     byte
	keeps  string
	out    int64
}

// series runs a block from bytes of its own on, at the first, the second and the last place of both areas that it may have.
func series(t *testing.T, i api.Instr, from string, list []turn) {
	t.Helper()
	last := 59
	if i.Op == api.TRIG {
		last = 63
	}
	for i.Area = api.Memory; i.Area <= api.Retain; i.Area++ {
		for _, i.At = range []int{0, 1, last} {
			p := loaded(t, []api.Instr{{Op: api.LD, Kind: api.Bool, Area: api.Input, At: 9}, i, {Op: api.ST, Kind: api.Bool, Area: api.Output, At: 7}})
			img := with(noise(), i.Area, i.At, from)
			for n, c := range list {
				img = with(img, api.Input, 9, string([]byte{c.in}))
				next, scan := runs(t, p, img, c.passed)
				img = with(with(img, i.Area, i.At, c.keeps), api.Output, 7, string([]byte{byte(c.out)}))
				if next != img || scan != (api.Scan{Steps: 3, Kind: api.Bool, Value: c.out}) {
					t.Fatalf("%s from %q, run %d: %q, %v, want %v", il.Spell(i), from, n, next, scan, c)
				}
			}
		}
	}
}

// dword are the four bytes of a number.
func dword(n int64) string {
	return bytesOf(api.Dword, n)
}

// ton is a turn of a TON: what it leaves is a time.
func ton(passed int, in byte, keeps, out int64) turn {
	return turn{passed, in, dword(keeps), out}
}

// ctu is a turn of a CTU: what it leaves is a count, and what IN was.
func ctu(in byte, keeps int64, out int64) turn {
	return turn{int(keeps)*3 - 7, in, dword(keeps) + string([]byte{min(in, 1)}), out}
}

const most32 = math.MaxUint32

func TestTon(t *testing.T) {
	of := func(n int64) api.Instr { return api.Instr{Op: api.TON, N: n} }
	series(t, of(10), dword(0), []turn{
		ton(0, 1, 0, 0), ton(1, 1, 1, 0), ton(8, 2, 9, 0), ton(1, 255, 10, 1), ton(0, 1, 10, 1), ton(5, 1, 10, 1),
		ton(5, 0, 0, 0), ton(10, 0, 0, 0), ton(10, 1, 10, 1), ton(0, 0, 0, 0), ton(11, 1, 10, 1), ton(0, 0, 0, 0), ton(9, 1, 9, 0), ton(2, 1, 10, 1),
		ton(-1, 0, 0, 0), ton(-5, 1, 0, 0), ton(3, 1, 3, 0), ton(-3, 1, 3, 0), ton(-10000, 1, 3, 0), ton(math.MinInt, 1, 3, 0), ton(math.MinInt+1, 1, 3, 0),
		ton(10000, 1, 10, 1), ton(0, 0, 0, 0), ton(10001, 1, 10, 1), ton(0, 0, 0, 0), ton(3, 1, 3, 0), ton(math.MaxInt, 1, 10, 1), ton(math.MaxInt, 1, 10, 1), ton(math.MaxInt, 0, 0, 0),
	})
	series(t, of(1), dword(0), []turn{ton(0, 1, 0, 0), ton(1, 1, 1, 1), ton(1, 1, 1, 1), ton(1, 0, 0, 0), ton(2, 1, 1, 1), ton(0, 1, 1, 1)})
	series(t, of(9999), dword(0), []turn{
		ton(9998, 1, 9998, 0), ton(0, 1, 9998, 0), ton(-1, 1, 9998, 0), ton(1, 1, 9999, 1), ton(1, 1, 9999, 1), ton(0, 0, 0, 0),
		ton(9999, 1, 9999, 1), ton(0, 0, 0, 0), ton(10000, 1, 9999, 1), ton(0, 0, 0, 0), ton(1<<32, 1, 9999, 1), ton(0, 0, 0, 0),
		ton(5000, 1, 5000, 0), ton(4998, 1, 9998, 0), ton(1<<62, 1, 9999, 1),
	})
	for _, from := range []int64{most32, most32 - 9, 1 << 31, 1<<31 - 1, 10000, 65546, 11} {
		for _, passed := range []int{0, 1, 9, 10000, -3, math.MaxInt, math.MinInt} {
			series(t, of(10), dword(from), []turn{ton(passed, 1, 10, 1), ton(passed, 0, 0, 0)})
			series(t, of(10), dword(from), []turn{ton(passed, 0, 0, 0), ton(0, 1, 0, 0)})
		}
	}
	series(t, of(10), dword(10), []turn{ton(0, 1, 10, 1)})
	series(t, of(10), dword(9), []turn{ton(0, 1, 9, 0)})
}

func TestCtu(t *testing.T) {
	of := func(n int64) api.Instr { return api.Instr{Op: api.CTU, N: n} }
	series(t, of(2), dword(0)+"\x00", []turn{
		ctu(0, 0, 0), ctu(1, 1, 0), ctu(1, 1, 0), ctu(9, 1, 0), ctu(0, 1, 0), ctu(0, 1, 0), ctu(255, 2, 1), ctu(1, 2, 1), ctu(0, 2, 1), ctu(0, 2, 1), ctu(1, 2, 1), ctu(0, 2, 1),
	})
	series(t, of(1), dword(0)+"\x00", []turn{ctu(1, 1, 1), ctu(0, 1, 1), ctu(1, 1, 1)})
	series(t, of(9999), dword(9996)+"\x00", []turn{ctu(1, 9997, 0), ctu(0, 9997, 0), ctu(1, 9998, 0), ctu(0, 9998, 0), ctu(1, 9999, 1), ctu(0, 9999, 1), ctu(1, 9999, 1)})
	for _, from := range []int64{most32, 1 << 31, 1<<31 - 1, 65537, 4, 3} {
		// More than N stays, till IN becomes 1.
		series(t, of(2), dword(from)+"\x00", []turn{ctu(0, from, 1), ctu(0, from, 1), ctu(1, 2, 1), ctu(0, 2, 1)})
		for _, was := range []string{"\x01", "\x02", "\x80", "\xff"} {
			series(t, of(2), dword(from)+was, []turn{ctu(1, from, 1), ctu(1, from, 1), ctu(0, from, 1), ctu(1, 2, 1)})
			series(t, of(2), dword(from)+was, []turn{ctu(0, from, 1), ctu(1, 2, 1)})
		}
	}
	for _, was := range []string{"\x01", "\x02", "\xff"} {
		series(t, of(2), dword(1)+was, []turn{ctu(1, 1, 0), ctu(0, 1, 0), ctu(1, 2, 1)})
		series(t, of(2), dword(0)+was, []turn{ctu(0, 0, 0), ctu(1, 1, 0)})
	}
}

func TestTrig(t *testing.T) {
	i := api.Instr{Op: api.TRIG}
	up, stays, down, low := turn{5, 1, "\x01", 1}, turn{0, 1, "\x01", 0}, turn{-1, 0, "\x00", 0}, turn{10001, 0, "\x00", 0}
	series(t, i, "\x00", []turn{up, stays, stays, down, low, up, down, up, stays})
	series(t, i, "\x00", []turn{low, {0, 2, "\x01", 1}, {0, 255, "\x01", 0}})
	for b := 1; b < 256; b++ {
		was := string([]byte{byte(b)})
		series(t, i, was, []turn{stays, down, up})
		series(t, i, was, []turn{down, up})
	}
}

// TestBlocksThatShareBytes has two or three upon one another.
func TestBlocksThatShareBytes(t *testing.T) {
	for _, c := range []struct {
		text string
		runs string // what IN is in each run, in each of which 3 have passed
		outs string
		m    string
	}{
		{"TON %M0,10 / ST %Q1:BOOL / LD %I0:BOOL / TON %M0,10", "11110", "01110", "\x00\x00\x00\x00"},
		{"TON %M0,10 / ST %Q1:BOOL / LD %I0:BOOL / TON %M0,10", "1", "0", "\x00\x00\x00\x06"},
		{"TON %M0,5 / LD %I0:BOOL / TON %M0,10", "111", "000", "\x00\x00\x00\x08"},
		{"TON %M0,3 / TON %M0,10", "11", "00", "\x00\x00\x00\x06"},
		{"TRIG %M0 / LD %I0:BOOL / TRIG %M0", "1101", "0000", "\x01"},
		{"TRIG %M0 / TRIG %M0", "1", "0", "\x01"},
		{"TRIG %M0 / TRIG %M1", "1101", "1001", "\x01\x01"},
		{"TRIG %M4 / LD %I0:BOOL / CTU %M0,2", "10101", "00000", "\x00\x00\x00\x00\x01"},
		{"CTU %M0,2 / LD %I0:BOOL / CTU %M0,2", "10101", "00111", "\x00\x00\x00\x02\x01"},
		{"CTU %M0,2 / LD %I0:BOOL / TRIG %M4", "101", "000", "\x00\x00\x00\x02\x01"},
		{"CTU %M0,3 / LD %I0:BOOL / TON %M0,9", "10", "00", "\x00\x00\x00\x00\x00"},
		{"CTU %M0,3 / LD %I0:BOOL / TON %M0,9", "11", "00", "\x00\x00\x00\x07\x01"},
		{"TON %M1,9 / LD %I0:BOOL / CTU %M0,9", "1", "0", "\x00\x00\x00\x00\x01"},
	} {
		p := loaded(t, lines(t, "LD %I0:BOOL / "+c.text+" / ST %Q0:BOOL"))
		img, outs := Blank(), ""
		for _, in := range c.runs {
			img.I = string([]byte{byte(in - '0')})
			img, _ = runs(t, p, img, 3)
			outs += string([]byte{'0' + img.Q[0]})
		}
		if c.m != img.M[:len(c.m)] || outs != c.outs {
			t.Errorf("%s: %q, %s, want %q, %s", c.text, img.M[:8], outs, c.m, c.outs)
		}
	}
}

// TestBlocksThatAreNotReached leaves what they keep as it is.
func TestBlocksThatAreNotReached(t *testing.T) {
	for _, c := range []struct{ block, keeps, behind string }{
		{"TON %M0,9", dword(4), dword(7)},
		{"CTU %M0,9", dword(4) + "\x00", dword(5) + "\x01"},
		{"TRIG %M0", "\x00", "\x01"},
	} {
		for _, text := range []string{"LD %I0:BOOL / JMPC L5 / LD BOOL#1 / " + c.block + " / S %Q0:BOOL", "LD %I0:BOOL / RETC / LD BOOL#1 / " + c.block} {
			p := loaded(t, lines(t, text))
			img := with(noise(), api.Memory, 0, c.keeps)
			for range 3 {
				img = with(img, api.Input, 0, "\x01")
				if next, _ := runs(t, p, img, 3); next != img {
					t.Errorf("%s: %q, want %q", text, next, img)
				}
			}
			img = with(img, api.Input, 0, "\x00")
			if next, _ := runs(t, p, img, 3); next.M != with(img, api.Memory, 0, c.behind).M {
				t.Errorf("%s: %q", text, next.M)
			}
		}
	}
}

// writer writes a program that may run, as it is drawn.
type writer struct {
	d    *dice
	code []api.Instr
	deep int
	near int // how many bytes of each area it uses
}

// operand is one of an operation and a kind, with a literal or a place.
func (w *writer) operand(op, kind int) api.Instr {
	at := min(w.d.below(w.near), 64-sizeOf(kind))
	if stores(op) {
		return api.Instr{Op: op, Kind: kind, Area: api.Output + w.d.below(3), At: at}
	}
	if w.d.below(3) == 0 {
		return api.Instr{Op: op, Kind: kind, N: anyOf(w.d, ends(kind))}
	}
	return api.Instr{Op: op, Kind: kind, Area: api.Input + w.d.below(4), At: at}
}

func (w *writer) put(i api.Instr) {
	w.code = append(w.code, i)
}

// joining is an operation that is done with a kind, and leaves it.
func (w *writer) joining(kind int) int {
	return anyOf(w.d, joins(kind)[6:])
}

// value writes what leaves a result of a kind.
func (w *writer) value(kind int) {
	op := api.LD
	if among(bits, kind) && w.d.below(3) == 0 {
		op = api.LDN
	}
	w.put(w.operand(op, kind))
	for range w.d.below(3) {
		switch w.d.below(6) {
		case 0:
			w.put(w.operand(w.joining(kind), kind))
		case 1:
			w.bracket(w.joining(kind), kind)
		case 2:
			w.put(api.Instr{Op: api.CONV, Kind: 1 + w.d.below(7)})
			w.put(api.Instr{Op: api.CONV, Kind: kind})
		case 3:
			w.conditions(kind)
		case 4:
			if among(bits, kind) {
				w.put(api.Instr{Op: api.NOT})
			}
		default:
			w.put(w.operand(api.GT+w.d.below(6), kind))
			w.put(api.Instr{Op: api.CONV, Kind: kind})
		}
	}
}

// bracket tells whether there was a place for one.
func (w *writer) bracket(op, kind int) bool {
	if w.deep == 8 || len(w.code) > 150 {
		return false
	}
	w.put(api.Instr{Op: api.OPEN, At: op})
	w.deep++
	w.value(kind)
	w.deep--
	w.put(api.Instr{Op: api.CLOSE})
	return true
}

// conditions writes what hangs on a result of BOOL, and leaves a result of the kind.
func (w *writer) conditions(kind int) {
	w.put(api.Instr{Op: api.CONV, Kind: api.Bool})
	switch w.d.below(7) {
	case 0, 1:
		n := anyOf(w.d, []int64{1, 2, 3, 10, 9999, 1 + int64(w.d.below(9999))})
		w.put(api.Instr{Op: api.TON + w.d.below(2), Area: api.Memory + w.d.below(2), At: min(w.d.below(w.near), 59), N: n})
	case 2:
		w.put(api.Instr{Op: api.TRIG, Area: api.Memory + w.d.below(2), At: w.d.below(w.near)})
	case 3:
		w.put(w.operand(api.S+w.d.below(2), api.Bool))
	case 4:
		if w.deep == 0 {
			w.put(api.Instr{Op: api.RET + 1 + w.d.below(2)})
		}
	default:
		w.jump(kind)
		return
	}
	w.put(api.Instr{Op: api.CONV, Kind: kind})
}

// jump writes one that leads past some others; where what meets is unlike, a result is loaded anew.
func (w *writer) jump(kind int) {
	from := len(w.code)
	w.put(api.Instr{Op: api.JMP + w.d.below(3)})
	if len(w.code) < 150 {
		w.value(1 + w.d.below(7))
	}
	w.code[from].At = len(w.code)
	if w.code[from].Op == api.JMP {
		w.put(api.Instr{Op: api.CONV, Kind: kind})
		return
	}
	w.put(w.operand(api.LD, kind))
}

// drawn is a program of some values that are kept; it may run, if it isn't too long.
func drawn(d *dice, most int) []api.Instr {
	w := &writer{d: d, near: anyOf(d, []int{3, 8, 64})}
	for len(w.code) < most {
		kind := 1 + d.below(7)
		w.value(kind)
		if d.below(3) == 0 && w.bracket(api.GT+d.below(6), kind) {
			kind = api.Bool
		}
		op := api.ST
		if among(bits, kind) && d.below(3) == 0 {
			op = api.STN
		}
		w.put(w.operand(op, kind))
	}
	if d.below(3) == 0 {
		// An end where unlike results may meet.
		w.put(api.Instr{Op: api.CONV, Kind: api.Bool})
		w.put(api.Instr{Op: api.JMPC + d.below(2), At: len(w.code) + 2})
		w.put(w.operand(api.LD, 1+d.below(7)))
	}
	return w.code
}

// stepByStep is a program whose instructions are drawn one by one, each of them such that it may be there; jumps lead to anywhere behind them.
func stepByStep(t *testing.T, d *dice, list []api.Instr) []api.Instr {
	t.Helper()
	n := 3 + d.below(22)
	if d.below(90) == 0 {
		n = 100
	}
	code := rets(n)
	for at := range code {
		for range 15 {
			code[at] = anyOf(d, list)
			if isJump(code[at].Op) {
				code[at].At = at + 1 + d.below(min(n-at, 9))
			}
			if e, wrong := verify.Check(code); e == api.OK || wrong > at {
				break
			}
		}
	}
	return code
}

// some are instructions to draw from, that are likely to fit one another.
func some(t *testing.T) []api.Instr {
	t.Helper()
	return lines(t, strings.Join([]string{
		"LD BOOL#1 / LD %I0:BOOL / LD %I1:BOOL / LDN %M0:BOOL / LD INT#5 / LD %I2:INT / LD WORD#7 / ST %Q0:BOOL / STN %M0:BOOL / S %M1:BOOL / R %Q1:BOOL / ST %Q1:INT",
		"AND( / ADD( / DIV( / EQ( / LT( / ) / ) / ) / ) / ADD INT#3 / DIV %I1:INT / MOD %M0:INT / GT INT#100 / NE BOOL#1 / ORN %Q0:BOOL / NOT / CONV INT / CONV BOOL / CONV WORD",
		"JMP L1 / JMPC L1 / JMPCN L1 / JMPC L1 / JMPCN L1 / RETC / RETCN / TON %M0,9 / CTU %R0,2 / TRIG %M2 / TRIG %R4",
	}, " / "))
}

// drawnImage is areas of which many bytes are 0, 1, 2 or 255; some of them are too short or too long.
func drawnImage(d *dice) api.Image {
	var all [4]string
	for n := range all {
		list := make([]byte, anyOf(d, []int{64, 64, 64, 64, 0, 1, 63, 65, 100}))
		for at := range list {
			list[at] = anyOf(d, []byte{0, 0, 0, 1, 1, 2, 127, 128, 255, byte(d.next())})
		}
		all[n] = string(list)
	}
	return imageOf(all)
}

func drawnPassed(d *dice) int {
	return anyOf(d, []int{0, 1, 2, 3, 9, 10, 11, 9998, 9999, 10000, 10001, -1, -10000, math.MinInt, math.MaxInt, 1 << 32, d.below(10001)})
}

// seen is what came of drawn programs.
type seen struct {
	programs, ran, jumped, divided, typed, none, unlike int
}

// several runs a program some times, each one behind the other, with what it left and new inputs.
func several(t *testing.T, d *dice, code []api.Instr, all *seen) {
	t.Helper()
	p, e, at := Load(code)
	if wantE, wantAt := verify.Check(code); e != wantE || at != wantAt || (p == nil) != (e != api.OK) {
		t.Fatalf("Load(%s) = %v, %d, %d", show(code), p, e, at)
	}
	if p == nil {
		return
	}
	all.programs++
	img := drawnImage(d)
	kinds := map[int]int{}
	for range 5 {
		next, scan := runs(t, p, img, drawnPassed(d))
		holds(t, d, p, img)
		all.count(code, scan)
		kinds[scan.Kind]++
		img = next
		if d.below(3) > 0 {
			img.I = drawnImage(d).I
		}
	}
	if len(kinds) > 1 {
		all.unlike++
	}
}

func (s *seen) count(code []api.Instr, scan api.Scan) {
	s.ran++
	if scan.Steps < len(code) {
		s.jumped++
	}
	if scan.Zero > 0 {
		s.divided++
	}
	if scan.Kind > 0 {
		s.typed++
	} else {
		s.none++
	}
}

// holds holds promise P15.2 of one run: against one from areas that differ in bytes that the program doesn't read.
func holds(t *testing.T, d *dice, p *Program, img api.Image) {
	t.Helper()
	code, passed := p.Code(), drawnPassed(d)
	writes, reads := verify.Writes(code), verify.Reads(code)
	first, firstScan := p.Run(img, passed)
	if firstScan.Steps > len(code) {
		t.Fatalf("%s: %d steps", show(code), firstScan.Steps)
	}
	from, to := areasOf(Fit(img)), areasOf(first)
	var turned [4]string
	for n := range from {
		list := []byte(from[n])
		for at := range list {
			if writes[n]>>at&1 == 0 && to[n][at] != from[n][at] {
				t.Fatalf("%s: byte %d of area %d was changed", show(code), at, n+1)
			}
			if reads[n]>>at&1 == 0 {
				list[at] ^= byte(1 + d.below(255))
			}
		}
		turned[n] = string(list)
	}
	if to[0] != from[0] {
		t.Fatalf("%s: inputs were changed", show(code))
	}
	second, secondScan := p.Run(imageOf(turned), passed)
	if firstScan != secondScan {
		t.Fatalf("%s: %v, and %v with other bytes that aren't read", show(code), firstScan, secondScan)
	}
	sameWritten(t, code, from, to, turned, areasOf(second))
}

// sameWritten holds that two runs wrote the same bytes: where they left unlike ones, both left them as they were.
func sameWritten(t *testing.T, code []api.Instr, from, to, from2, to2 [4]string) {
	t.Helper()
	for n := range to {
		for at := range to[n] {
			if to[n][at] != to2[n][at] && (to[n][at] != from[n][at] || to2[n][at] != from2[n][at]) {
				t.Fatalf("%s: byte %d of area %d hangs on bytes that aren't read", show(code), at, n+1)
			}
		}
	}
}

func TestDrawnPrograms(t *testing.T) {
	d := dice(15)
	var all seen
	for range 2500 {
		several(t, &d, drawn(&d, 1+d.below(60)), &all)
	}
	for range 20 {
		several(t, &d, drawn(&d, 190), &all)
	}
	if all.programs < 2400 || all.jumped < 1000 || all.divided < 1000 || all.unlike < 100 {
		t.Errorf("%+v", all)
	}
}

func TestDrawnStepByStep(t *testing.T) {
	d := dice(16)
	var all seen
	list := some(t)
	for range 6000 {
		several(t, &d, stepByStep(t, &d, list), &all)
	}
	if all.programs < 1000 || all.jumped < 1000 || all.divided < 100 || all.typed < 1000 || all.none < 100 || all.unlike < 50 {
		t.Errorf("%+v", all)
	}
}

// TestDrawnBlocks runs a few blocks that stand near each other, many times.
func TestDrawnBlocks(t *testing.T) {
	d := dice(17)
	for range 300 {
		code := []api.Instr{}
		for range 1 + d.below(4) {
			op := api.TON + d.below(3)
			i := api.Instr{Op: op, Area: api.Memory + d.below(2), At: d.below(6), N: anyOf(&d, []int64{1, 2, 3, 10, 20, 9999})}
			if op == api.TRIG {
				i.N = 0
			}
			out := api.Instr{Op: api.ST, Kind: api.Bool, Area: api.Output, At: len(code)}
			code = append(code, api.Instr{Op: api.LD, Kind: api.Bool, Area: api.Input, At: d.below(2)}, i, out)
		}
		p := loaded(t, code)
		img := drawnImage(&d)
		for range 40 {
			passed := drawnPassed(&d)
			img.I = string([]byte{byte(d.below(3)), byte(d.below(2))})
			holds(t, &d, p, img)
			img, _ = runs(t, p, img, passed)
		}
	}
}

// TestAllShortPrograms runs all of up to three of a few instructions that may run.
func TestAllShortPrograms(t *testing.T) {
	list := lines(t, "LD BOOL#1 / LD %I0:BOOL / LDN %I0:BOOL / LD INT#3 / ADD %I1:INT / DIV %I1:INT / EQ INT#3 / NOT / CONV INT / CONV BOOL / ST %Q0:INT / STN %Q1:BOOL / S %Q0:BOOL / R %Q1:BOOL / AND( / DIV( / ) / RET / RETC / RETCN / TON %M0,3 / CTU %M1,2 / TRIG %M4")
	for to := range 5 {
		for op := api.JMP; op <= api.JMPCN; op++ {
			list = append(list, api.Instr{Op: op, At: to})
		}
	}
	images := []api.Image{{}, {I: "\x01\x00\x02", Q: "\x05\x06\x07", M: "\x00\x00\x00\x02\x00\x01"}}
	asked := 0
	var all func(code []api.Instr, more int)
	all = func(code []api.Instr, more int) {
		p, e, at := Load(code)
		if wantE, wantAt := verify.Check(code); e != wantE || at != wantAt || (p == nil) != (e != api.OK) {
			t.Fatalf("Load(%s) = %v, %d, %d", show(code), p, e, at)
		}
		if p != nil {
			asked++
			for _, img := range images {
				runs(t, p, img, 2)
			}
		}
		if more == 0 || (p == nil && at < len(code)) {
			return
		}
		for _, i := range list {
			all(append(code[:len(code):len(code)], i), more-1)
		}
	}
	all(nil, 3)
	all(lines(t, "LD INT#9 / DIV("), 3)
	all(lines(t, "LD %I0:BOOL / JMPC L3"), 3)
	if asked < 3000 {
		t.Errorf("%d may run", asked)
	}
}

// TestAnyNumbers loads instructions of any numbers.
func TestAnyNumbers(t *testing.T) {
	d := dice(18)
	numbers := []int{math.MinInt, math.MinInt32, -256, -64, -1, 0, 1, 2, 3, 4, 5, 7, 8, 13, 25, 32, 33, 36, 37, 59, 60, 63, 64, 65, 200, 201, 256, math.MaxInt32, math.MaxInt}
	var all seen
	for range 20000 {
		code := make([]api.Instr, d.below(5))
		for at := range code {
			code[at] = api.Instr{Op: anyOf(&d, numbers), Kind: anyOf(&d, numbers), Area: anyOf(&d, numbers), At: anyOf(&d, numbers), N: int64(anyOf(&d, numbers))}
			if d.below(3) > 0 {
				code[at] = anyOf(&d, []api.Instr{{Op: api.LD, Kind: 1 + d.below(7), Area: 1 + d.below(4), At: d.below(64)}, {Op: api.CONV, Kind: 1 + d.below(7)}, {Op: api.NOT}, {Op: api.RET}})
			}
		}
		several(t, &d, code, &all)
	}
	if all.programs < 500 {
		t.Errorf("%+v", all)
	}
}

// TestAnyPassed asks a run with any time; of what is beyond what counts the same comes as at the ends.
func TestAnyPassed(t *testing.T) {
	p := loaded(t, lines(t, "LD BOOL#1 / TON %M0,9999 / ST %Q0:BOOL / LD BOOL#1 / TON %M4,1 / ST %Q1:BOOL / LD %I0:BOOL / TON %R0,10"))
	for _, passed := range []int{math.MinInt, math.MinInt + 1, math.MinInt32 - 1, -65536, -10001, -10000, -1, 0, 1, 9, 10, 9998, 9999, 10000, 10001, 19999, 65535, 65536, 1 << 31, 1<<32 - 1, 1 << 32, 1<<32 + 5, 1 << 62, math.MaxInt - 1, math.MaxInt} {
		for _, from := range []string{dword(0), dword(1), dword(5000), dword(9999), dword(most32)} {
			got, scan := runs(t, p, api.Image{I: "\x01", M: from + from, R: from}, passed)
			brought := max(0, min(passed, 10000))
			same, sameScan := p.Run(api.Image{I: "\x01", M: from + from, R: from}, brought)
			if got != same || scan != sameScan {
				t.Errorf("%d: %q, %v", passed, got, scan)
			}
		}
	}
}

// TestAnyOrder runs the same again, with other things between.
func TestAnyOrder(t *testing.T) {
	d := dice(19)
	type asked struct {
		p      *Program
		img    api.Image
		passed int
		behind api.Image
		scan   api.Scan
	}
	list := []asked{{passed: 3, img: drawnImage(&d)}}
	for len(list) < 80 {
		if p, _, _ := Load(drawn(&d, 1+d.below(40))); p != nil {
			list = append(list, asked{p: p, img: drawnImage(&d), passed: drawnPassed(&d)})
		}
	}
	for n := range list {
		list[n].behind, list[n].scan = list[n].p.Run(list[n].img, list[n].passed)
	}
	for range 4000 {
		c := anyOf(&d, list)
		if behind, scan := c.p.Run(c.img, c.passed); behind != c.behind || scan != c.scan {
			t.Fatalf("%s: %q, %v, and ahead of that %q, %v", show(c.p.Code()), behind, scan, c.behind, c.scan)
		}
		if again := anyOf(&d, list).p; again != nil {
			other := loaded(t, again.Code())
			other.Run(c.img, 5)
			Fit(c.img)
		}
	}
	if Blank() != Fit(api.Image{}) {
		t.Error("Blank")
	}
}

// TestOneProgramOfTwo has two programs of the same instructions, which know nothing of each other, nor of their own runs.
func TestOneProgramOfTwo(t *testing.T) {
	code := lines(t, "LD %I0:BOOL / CTU %M0,9 / LD %M0:DWORD / ADD( / LD DINT#1 / )")
	refused(t, code, api.ErrType, 3)
	code = lines(t, "LD %I0:BOOL / CTU %M0,9 / LD INT#1 / ADD( / LD %M2:INT / )")
	one, two := loaded(t, code), loaded(t, code)
	img := api.Image{I: "\x01"}
	for range 3 {
		got, scan := runs(t, one, img, 1)
		if scan != (api.Scan{Steps: 6, Kind: api.Int, Value: 2}) || got.M[3] != 1 {
			t.Errorf("%q, %v", got, scan)
		}
		same, sameScan := runs(t, two, img, 1)
		if same != got || sameScan != scan {
			t.Errorf("%q, %v", same, sameScan)
		}
	}
}
