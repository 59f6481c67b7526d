package verify

import (
	"fmt"
	"math"
	"slices"
	"strings"
	"testing"

	"fugleman/api"
	"fugleman/il"
)

// dice are numbers in no order, always the same ones.
type dice uint64

func (d *dice) next() uint32 {
	*d = *d*6364136223846793005 + 1442695040888963407
	return uint32(*d >> 32)
}

func (d *dice) below(n int) int {
	return int(uint64(d.next()) * uint64(n) >> 32)
}

func anyOf[T any](d *dice, list []T) T {
	return list[d.below(len(list))]
}

const (
	anyKind = "BOOL SINT INT DINT UINT WORD DWORD"
	numbers = "SINT INT DINT UINT"
	bits    = "BOOL WORD DWORD"
)

func kindNames() []string {
	return strings.Fields(anyKind)
}

// kindOf is the number of a kind's name; of nothing 0.
func kindOf(name string) int {
	return slices.Index(kindNames(), name) + 1
}

func nameOf(kind int) string {
	if kind < 1 || kind > 7 {
		return ""
	}
	return kindNames()[kind-1]
}

func sizeOf(kind int) int {
	return []int{0, 1, 1, 2, 4, 2, 2, 4}[kind]
}

// among tells whether a kind is one of those names.
func among(list string, kind int) bool {
	return kind != 0 && slices.Contains(strings.Fields(list), nameOf(kind))
}

// row is one of chapter 14's table, for one operation.
type row struct {
	own    string // which kinds it may have itself; "-", if it has none
	result string // which kinds the result may have; "*": its own; "-": any, or none
	behind string // the kind behind it; "*": its own; "-": the same as ahead
}

var table = rows()

// rows is chapter 14's table, but for brackets and for where to.
func rows() map[int]row {
	table := map[int]row{
		api.LD:   {anyKind, "-", "*"},
		api.LDN:  {bits, "-", "*"},
		api.ST:   {anyKind, "*", "-"},
		api.STN:  {bits, "*", "-"},
		api.S:    {"BOOL", "BOOL", "-"},
		api.R:    {"BOOL", "BOOL", "-"},
		api.NOT:  {"-", bits, "-"},
		api.JMP:  {"-", "-", "-"},
		api.RET:  {"-", "-", "-"},
		api.CONV: {anyKind, anyKind, "*"},
	}
	for _, op := range []int{api.AND, api.OR, api.XOR, api.ANDN, api.ORN, api.XORN} {
		table[op] = row{bits, "*", "-"}
	}
	for _, op := range []int{api.ADD, api.SUB, api.MUL, api.DIV, api.MOD} {
		table[op] = row{numbers, "*", "-"}
	}
	for _, op := range []int{api.GT, api.GE, api.EQ, api.NE, api.LE, api.LT} {
		table[op] = row{anyKind, "*", "BOOL"}
	}
	for _, op := range []int{api.JMPC, api.JMPCN, api.RETC, api.RETCN, api.TON, api.CTU, api.TRIG} {
		table[op] = row{"-", "BOOL", "-"}
	}
	return table
}

// fits tells whether the row lets an instruction of that kind follow that result.
func (r row) fits(own, result int) bool {
	if r.own != "-" && !among(r.own, own) {
		return false
	}
	switch r.result {
	case "-":
		return true
	case "*":
		return own == result
	}
	return among(r.result, result)
}

func (r row) after(own, result int) int {
	switch r.behind {
	case "*":
		return own
	case "-":
		return result
	}
	return kindOf(r.behind)
}

// way is what one way through a program brings ahead of an instruction: the result's kind, and the open brackets, two bytes each.
type way struct {
	kind int
	open string
}

// twin is the second way: it takes all ways through a program, again and again, till nothing changes any more.
type twin struct {
	code []api.Instr
	ways []map[way]int
	here []way // what is ahead of each instruction, when all ways are known
	next []way // what is behind it
	errs []api.Errno
}

func follows(code []api.Instr) *twin {
	n := len(code) + 1
	w := &twin{code: code, ways: make([]map[way]int, n), here: make([]way, n), next: make([]way, n), errs: make([]api.Errno, n)}
	w.add(0, way{})
	for w.grow() {
	}
	for at := range n {
		w.here[at] = w.ahead(at)
		if at < len(code) {
			w.next[at], w.errs[at] = w.take(at, w.here[at])
		}
	}
	return w
}

// add tells whether a way is new.
func (w *twin) add(at int, one way) bool {
	if w.ways[at] == nil {
		w.ways[at] = map[way]int{}
	}
	w.ways[at][one]++
	return w.ways[at][one] == 1
}

// grow takes all ways one instruction further, and tells whether one is new.
func (w *twin) grow() bool {
	grown := false
	for at := range w.code {
		// Behind a place where brackets differ nothing is asked any more.
		if _, same := w.brackets(at); !same {
			continue
		}
		for from := range w.ways[at] {
			next, e := w.take(at, from)
			if e != api.OK {
				continue
			}
			for _, to := range w.leadsTo(at) {
				if w.add(to, next) {
					grown = true
				}
			}
		}
	}
	return grown
}

// reached tells whether a way comes to an instruction.
func (w *twin) reached(at int) bool {
	return len(w.ways[at]) > 0
}

// brackets tells those that are open on some way, and whether they are on all.
func (w *twin) brackets(at int) (string, bool) {
	first, some := "", false
	for one := range w.ways[at] {
		if some && one.open != first {
			return "", false
		}
		first, some = one.open, true
	}
	return first, true
}

// leadsTo tells to which an instruction leads.
func (w *twin) leadsTo(at int) []int {
	switch i := w.code[at]; i.Op {
	case api.RET:
		return nil
	case api.JMP:
		return []int{i.At}
	case api.JMPC, api.JMPCN:
		return []int{at + 1, i.At}
	}
	return []int{at + 1}
}

// take tells what one way brings behind an instruction, or why it doesn't.
func (w *twin) take(at int, from way) (way, api.Errno) {
	i := w.code[at]
	switch i.Op {
	case api.OPEN:
		return w.open(i.At, from)
	case api.CLOSE:
		return w.close(from)
	case api.JMP, api.JMPC, api.JMPCN:
		if i.At <= at || i.At > len(w.code) {
			return way{}, api.ErrJump
		}
	}
	r, known := table[i.Op]
	if !known {
		return way{}, api.ErrForm
	}
	if !r.fits(i.Kind, from.kind) {
		return way{}, api.ErrType
	}
	if i.Op >= api.RET && i.Op <= api.RETCN && from.open != "" {
		return way{}, api.ErrForm
	}
	return way{r.after(i.Kind, from.kind), from.open}, api.OK
}

func (w *twin) open(op int, from way) (way, api.Errno) {
	if !among(table[op].own, from.kind) {
		return way{}, api.ErrType
	}
	if len(from.open) == 16 {
		return way{}, api.ErrFull
	}
	return way{0, from.open + string([]byte{byte(op), byte(from.kind)})}, api.OK
}

func (w *twin) close(from way) (way, api.Errno) {
	rest := len(from.open) - 2
	if rest < 0 {
		return way{}, api.ErrForm
	}
	op, kind := int(from.open[rest]), int(from.open[rest+1])
	if from.kind != kind {
		return way{}, api.ErrType
	}
	return way{table[op].after(kind, kind), from.open[:rest]}, api.OK
}

// ahead tells what all ways bring ahead of an instruction: no result, if theirs are unlike.
func (w *twin) ahead(at int) way {
	kind, some := 0, false
	for one := range w.ways[at] {
		if some && one.kind != kind {
			kind = 0
			break
		}
		kind, some = one.kind, true
	}
	open, _ := w.brackets(at)
	return way{kind, open}
}

// check tells what Check is to tell.
func (w *twin) check() (api.Errno, int) {
	for at, i := range w.code {
		if !il.Right(i) {
			return api.ErrForm, at
		}
		if !w.reached(at) {
			continue
		}
		if w.errs[at] != api.OK {
			return w.errs[at], at
		}
		if w.differs(at) {
			return api.ErrJump, at
		}
	}
	if w.here[len(w.code)].open != "" {
		return api.ErrForm, len(w.code)
	}
	return api.OK, 0
}

// differs tells whether one ahead of an instruction leads to where it leads to, too, with other brackets open.
func (w *twin) differs(at int) bool {
	for _, to := range w.leadsTo(at) {
		for earlier := range at {
			if w.reached(earlier) && w.next[earlier].open != w.next[at].open && slices.Contains(w.leadsTo(earlier), to) {
				return true
			}
		}
	}
	return false
}

// kinds tells what Kinds is to tell of a program that may run.
func (w *twin) kinds() []int {
	list := []int{}
	for at := range w.code {
		if w.reached(at) {
			list = append(list, w.here[at].kind)
		} else {
			list = append(list, -1)
		}
	}
	return list
}

// uses tells what Writes and Reads are to tell of a program that may run, byte for byte.
func (w *twin) uses() (writes, reads [4]uint64) {
	for at, i := range w.code {
		if !w.reached(at) || i.Area == 0 {
			continue
		}
		n, both := 0, true
		switch i.Op {
		case api.TON, api.CTU:
			n = 5
		case api.TRIG:
			n = 1
		default:
			n, both = sizeOf(i.Kind), false
		}
		stores := i.Op == api.ST || i.Op == api.STN || i.Op == api.S || i.Op == api.R
		for b := i.At; b < i.At+n; b++ {
			if both || stores {
				writes[i.Area-1] |= 1 << b
			}
			if both || !stores {
				reads[i.Area-1] |= 1 << b
			}
		}
	}
	return writes, reads
}

// wanted is what the four calls are to tell of a program.
type wanted struct {
	e             api.Errno
	at            int
	kinds         []int
	ok            bool
	writes, reads [4]uint64
}

func want(code []api.Instr) wanted {
	if len(code) > 200 {
		return wanted{e: api.ErrLong, at: 200}
	}
	w := follows(code)
	var all wanted
	all.e, all.at = w.check()
	if all.e == api.OK {
		all.kinds, all.ok = w.kinds(), true
		all.writes, all.reads = w.uses()
	}
	return all
}

// holds asks all four calls of a program, holds their answers against the second way, and tells Check's.
func holds(t *testing.T, code []api.Instr) (api.Errno, int) {
	t.Helper()
	given := slices.Clone(code)
	all := want(given)
	e, at := Check(code)
	if e != all.e || at != all.at {
		t.Fatalf("Check(%s) = %d, %d, want %d, %d", show(given), e, at, all.e, all.at)
	}
	if kinds, ok := Kinds(code); ok != all.ok || !slices.Equal(kinds, all.kinds) {
		t.Fatalf("Kinds(%s) = %v, %v, want %v", show(given), kinds, ok, all.kinds)
	}
	uses(t, code, all.writes, all.reads)
	if !slices.Equal(code, given) {
		t.Fatalf("%s became %s", show(given), show(code))
	}
	return e, at
}

// is holds what Check tells of a program, beside what the second way does.
func is(t *testing.T, name string, code []api.Instr, want api.Errno, wantAt int) {
	t.Helper()
	if e, at := holds(t, code); e != want || at != wantAt {
		t.Fatalf("%s: %s: %d, %d, want %d, %d", name, show(code), e, at, want, wantAt)
	}
}

// show tells a program as a line.
func show(code []api.Instr) string {
	words := []string{}
	for _, i := range code[:min(len(code), 60)] {
		word := il.Spell(i)
		if word == "" {
			word = fmt.Sprint(i)
		}
		words = append(words, word)
	}
	return fmt.Sprint(len(code), ": ", strings.Join(words, " / "))
}

// lines is the program of its lines, with " / " between; jumps may also lead to L and a number.
func lines(t *testing.T, text string) []api.Instr {
	t.Helper()
	code := []api.Instr{}
	for _, line := range strings.Split(text, " / ") {
		name, to, _ := strings.Cut(line, " L")
		op, _ := il.Op(name)
		if leaps(op) {
			n := 0
			fmt.Sscan(to, &n)
			code = append(code, api.Instr{Op: op, At: n})
			continue
		}
		one, e, _ := il.Assemble(line)
		if e != api.OK {
			t.Fatalf("%q: %d", line, e)
		}
		code = append(code, one...)
	}
	return code
}

// told is a program, and what Check tells of it.
type told struct {
	text string
	want api.Errno
	at   int
}

func tells(t *testing.T, list []told) {
	t.Helper()
	for _, c := range list {
		is(t, c.text, lines(t, c.text), c.want, c.at)
	}
}

// kinded holds what Kinds tells of programs that are OK.
func kinded(t *testing.T, list map[string]string) {
	t.Helper()
	for text, want := range list {
		code := lines(t, text)
		is(t, text, code, api.OK, 0)
		if got, ok := Kinds(code); !ok || fmt.Sprint(got) != "["+want+"]" {
			t.Errorf("Kinds(%s) = %v, %v, want %s", text, got, ok, want)
		}
	}
}

// load is one instruction that leaves a result of that kind.
func load(kind int) api.Instr {
	return api.Instr{Op: api.LD, Kind: kind, N: 1}
}

// loads are the instructions that leave a result of that kind: of 0 none.
func loads(kind int) []api.Instr {
	if kind == 0 {
		return nil
	}
	return []api.Instr{load(kind)}
}

// forms are what an operation of a kind is asked as: with literals, and with places. What has no kind is asked for kind 0.
func forms(op, kind int) []api.Instr {
	if kindless := table[op].own == "-"; kindless != (kind == 0) {
		return nil
	}
	switch op {
	case api.NOT, api.RET, api.RETC, api.RETCN:
		return []api.Instr{{Op: op}}
	case api.JMP, api.JMPC, api.JMPCN:
		return nil
	case api.CONV:
		return []api.Instr{{Op: op, Kind: kind}}
	case api.TON, api.CTU:
		return []api.Instr{{Op: op, Area: api.Memory, N: 1}, {Op: op, Area: api.Retain, At: 59, N: 9999}}
	case api.TRIG:
		return []api.Instr{{Op: op, Area: api.Memory}, {Op: op, Area: api.Retain, At: 63}}
	}
	list := []api.Instr{{Op: op, Kind: kind, Area: api.Output, At: 64 - sizeOf(kind)}, {Op: op, Kind: kind, Area: api.Retain}}
	if op < api.ST || op > api.R {
		list = append(list, api.Instr{Op: op, Kind: kind, N: 1}, api.Instr{Op: op, Kind: kind, Area: api.Input})
	}
	return list
}

func leaps(op int) bool {
	return op == api.JMP || op == api.JMPC || op == api.JMPCN
}

func rets(n int) []api.Instr {
	list := make([]api.Instr, n)
	for at := range list {
		list[at] = api.Instr{Op: api.RET}
	}
	return list
}

// long is a program of so many instructions, all of which are reached.
func long(n int) []api.Instr {
	list := make([]api.Instr, n)
	for at := range list {
		list[at] = api.Instr{Op: api.ADD, Kind: api.Int, N: int64(at)}
	}
	if n > 0 {
		list[0] = load(api.Int)
	}
	return list
}

// wrongOnes may not be, for one reason each.
func wrongOnes() []api.Instr {
	return []api.Instr{
		{}, {Op: 37}, {Op: -1}, {Op: math.MinInt}, {Op: math.MaxInt}, {Op: 256 + api.RET},
		{Op: api.LD}, {Op: api.LD, Kind: 8}, {Op: api.LD, Kind: -1}, {Op: api.LD, Kind: api.Bool, N: 2}, {Op: api.LD, Kind: api.Int, N: 32768}, {Op: api.LD, Kind: api.Int, Area: api.Input, N: 1},
		{Op: api.LD, Kind: api.Int, Area: 5}, {Op: api.LD, Kind: api.Int, Area: -1}, {Op: api.LD, Kind: api.Int, Area: math.MaxInt}, {Op: api.LD, Kind: api.Int, Area: api.Input, At: 63}, {Op: api.LD, Kind: api.Int, Area: api.Input, At: -1}, {Op: api.LD, Kind: api.Int, At: 1},
		{Op: api.ST, Kind: api.Int}, {Op: api.ST, Kind: api.Int, Area: api.Input}, {Op: api.ST, Kind: api.Dint, Area: api.Memory, At: 61},
		{Op: api.NOT, Kind: api.Bool}, {Op: api.RET, At: 1}, {Op: api.RETC, N: 1}, {Op: api.CLOSE, Area: 1},
		{Op: api.JMP, At: 201}, {Op: api.JMP, At: -1}, {Op: api.JMP, At: math.MaxInt}, {Op: api.JMPC, At: math.MinInt}, {Op: api.JMP, At: 5, N: 1},
		{Op: api.CONV}, {Op: api.CONV, Kind: 8}, {Op: api.OPEN}, {Op: api.OPEN, At: api.NOT}, {Op: api.OPEN, At: api.LD}, {Op: api.OPEN, At: api.JMP}, {Op: api.OPEN, At: api.AND, Kind: api.Bool},
		{Op: api.TON, Area: api.Memory}, {Op: api.TON, Area: api.Memory, N: 10000}, {Op: api.CTU, Area: api.Memory, At: 60, N: 1}, {Op: api.CTU, Area: api.Output, N: 1}, {Op: api.TRIG, Area: api.Input}, {Op: api.TRIG, Area: api.Retain, At: 64}, {Op: api.TRIG, Area: api.Retain, N: 1},
	}
}

func TestTheExamples(t *testing.T) {
	tells(t, []told{
		{"LD BOOL#1 / ADD INT#1", api.ErrType, 1},
		{"LD INT#1 / AND INT#1", api.ErrType, 1},
	})
}

func TestNoInstruction(t *testing.T) {
	for _, code := range [][]api.Instr{nil, {}, long(3)[:0], wrongOnes()[:0]} {
		is(t, "none", code, api.OK, 0)
		if kinds, ok := Kinds(code); len(kinds) != 0 || !ok {
			t.Errorf("Kinds = %v, %v", kinds, ok)
		}
		if Writes(code) != [4]uint64{} || Reads(code) != [4]uint64{} {
			t.Error("no instruction writes or reads")
		}
	}
}

func TestLengths(t *testing.T) {
	for _, n := range []int{1, 2, 3, 17, 198, 199, 200, 201, 202, 255, 256, 257, 400, 65537, 1 << 20} {
		want, at := api.OK, 0
		if n > 200 {
			want, at = api.ErrLong, 200
		}
		for _, code := range [][]api.Instr{long(n), rets(n)} {
			is(t, "right ones", code, want, at)
		}
		if n <= 200 {
			want = api.ErrForm
		}
		is(t, "wrong ones", make([]api.Instr, n), want, at)
	}
	// Of a program that is too long nothing else is told, wherever it has another error.
	for _, n := range []int{201, 202, 300} {
		for _, at := range []int{0, n / 2, 199, 200, n - 1} {
			for _, wrong := range []api.Instr{{}, {Op: api.CLOSE}, {Op: api.JMP}, {Op: api.ADD, Kind: api.Dint}, {Op: api.OPEN, At: api.ADD}} {
				code := long(n)
				code[at] = wrong
				is(t, "too long", code, api.ErrLong, 200)
			}
		}
	}
}

func TestOneThatMayNotBe(t *testing.T) {
	ret, jump := api.Instr{Op: api.RET}, api.Instr{Op: api.JMP}
	for _, wrong := range wrongOnes() {
		if il.Right(wrong) {
			t.Fatalf("%v may be", wrong)
		}
		for _, n := range []int{1, 2, 3, 50, 199, 200} {
			for _, at := range slices.Compact([]int{0, 1 % n, n / 2, n - 1}) {
				code := long(n)
				code[at] = wrong
				is(t, "reached", code, api.ErrForm, at)
				if at == 0 {
					continue
				}
				code[0] = ret
				is(t, "behind a RET", code, api.ErrForm, at)
				code[0] = jump
				code[0].At = at + 1
				is(t, "jumped over", code, api.ErrForm, at)
				code[0].At = n
				is(t, "behind a jump to the end", code, api.ErrForm, at)
			}
		}
	}
}

// TestEachOperation asks each operation with each kind of its own behind a result of each kind, and behind none: ahead of all, and within a bracket.
func TestEachOperation(t *testing.T) {
	asked := 0
	for op, r := range table {
		for own := range 8 {
			for _, i := range forms(op, own) {
				for result := range 8 {
					oneOperation(t, r, i, own, result)
					asked++
				}
			}
		}
	}
	// Of each kind four forms of 19 operations, two of four that write, and one of CONV; two each of TON, CTU and TRIG, and one of four more.
	if asked != 8*(7*(4*19+2*4+1)+2*3+4) {
		t.Errorf("%d were asked", asked)
	}
}

func oneOperation(t *testing.T, r row, i api.Instr, own, result int) {
	t.Helper()
	code := append(loads(result), i)
	at := len(code) - 1
	if !r.fits(own, result) {
		is(t, "alone", code, api.ErrType, at)
		is(t, "within a bracket", within(code), api.ErrType, at+2)
		return
	}
	is(t, "alone", code, api.OK, 0)
	switch i.Op {
	case api.RET:
		return
	case api.RETC, api.RETCN:
	default:
		is(t, "within a bracket", within(code), api.OK, 0)
	}
	kinds, _ := Kinds(append(code, api.Instr{Op: api.RET}))
	if len(kinds) != at+2 || kinds[at] != result || kinds[at+1] != r.after(own, result) {
		t.Fatalf("Kinds of %s and RET: %v", show(code), kinds)
	}
}

// within is a program within a bracket: there it finds no result, whatever is ahead of the bracket.
func within(code []api.Instr) []api.Instr {
	ahead := []api.Instr{load(api.Dint), {Op: api.OPEN, At: api.GE}}
	behind := []api.Instr{load(api.Dint), {Op: api.CLOSE}, {Op: api.S, Kind: api.Bool, Area: api.Memory}}
	return slices.Concat(ahead, code, behind)
}

// TestBracketsOfEachOperation opens one of each operation on each kind, and closes it on each kind.
func TestBracketsOfEachOperation(t *testing.T) {
	for op := api.AND; op <= api.LT; op++ {
		if op == api.NOT {
			continue
		}
		for ahead := range 8 {
			open := append(loads(ahead), api.Instr{Op: api.OPEN, At: op})
			if !among(table[op].own, ahead) {
				is(t, "to open", open, api.ErrType, len(open)-1)
				is(t, "to open", append(open, load(api.Int), api.Instr{Op: api.CLOSE}), api.ErrType, len(open)-1)
				continue
			}
			is(t, "open", open, api.ErrForm, 2)
			for result := range 8 {
				code := slices.Concat(open, loads(result), []api.Instr{{Op: api.CLOSE}})
				if result != ahead {
					is(t, "to close", code, api.ErrType, len(code)-1)
					continue
				}
				is(t, "closed", code, api.OK, 0)
				oneBracket(t, code, table[op].after(ahead, ahead))
			}
		}
	}
}

// oneBracket holds which result is behind the end of a bracket.
func oneBracket(t *testing.T, code []api.Instr, want int) {
	t.Helper()
	if kinds, ok := Kinds(append(code, api.Instr{Op: api.RET})); !ok || kinds[2] != 0 || kinds[4] != want {
		t.Fatalf("Kinds of %s and RET: %v, %v, want %d", show(code), kinds, ok, want)
	}
	for kind := 1; kind <= 7; kind++ {
		e, at := api.ErrType, 4
		if kind == want {
			e, at = api.OK, 0
		}
		is(t, "behind the bracket", append(code, api.Instr{Op: api.ST, Kind: kind, Area: api.Memory}), e, at)
	}
}

func TestKindsThatDontFit(t *testing.T) {
	tells(t, []told{
		{"LD BOOL#1 / S %Q0:BOOL / R %M63:BOOL", api.OK, 0},
		{"LD BOOL#1 / S %Q0:WORD", api.ErrType, 1},
		{"LD WORD#1 / S %Q0:WORD", api.ErrType, 1},
		{"LD WORD#1 / S %Q0:BOOL", api.ErrType, 1},
		{"LD SINT#1 / R %Q0:SINT", api.ErrType, 1},
		{"S %Q0:BOOL", api.ErrType, 0},
		{"LDN INT#1", api.ErrType, 0},
		{"LDN %I0:UINT", api.ErrType, 0},
		{"LDN WORD#1 / STN %Q0:WORD / NOT", api.OK, 0},
		{"LD INT#1 / STN %Q0:INT", api.ErrType, 1},
		{"LD INT#1 / STN %Q0:WORD", api.ErrType, 1},
		{"LD WORD#1 / ST %Q0:UINT", api.ErrType, 1},
		{"LD BOOL#1 / ST %Q0:SINT", api.ErrType, 1},
		{"LD INT#1 / AND WORD#1", api.ErrType, 1},
		{"LD WORD#1 / AND INT#1", api.ErrType, 1},
		{"LD WORD#1 / ADD WORD#1", api.ErrType, 1},
		{"LD INT#1 / GT INT#1 / GT INT#1", api.ErrType, 2},
		{"LD INT#1 / GT INT#1 / GT BOOL#1 / NOT", api.OK, 0},
		{"LD BOOL#1 / CONV INT / ADD INT#1 / CONV DWORD / NOT / CONV BOOL / RETC", api.OK, 0},
	})
}

func TestCloseWithoutABracket(t *testing.T) {
	for result := range 8 {
		at := len(loads(result))
		is(t, "none open", append(loads(result), api.Instr{Op: api.CLOSE}), api.ErrForm, at)
		is(t, "none open, and one opened behind it", append(loads(result), api.Instr{Op: api.CLOSE}, api.Instr{Op: api.OPEN, At: api.EQ}), api.ErrForm, at)
	}
	tells(t, []told{
		{") / )", api.ErrForm, 0},
		{"LD INT#1 / ADD( / LD INT#1 / ) / )", api.ErrForm, 4},
		{"LD INT#1 / GT( / LD INT#1 / ) / )", api.ErrForm, 4},
		{"LD BOOL#1 / JMPC L3 / LD INT#1 / )", api.ErrForm, 3},
	})
}

// deepCode opens so many brackets, each with a result ahead of it, and leaves a result of INT or none.
func deepCode(n int, result bool) []api.Instr {
	code := []api.Instr{load(api.Int)}
	for range n {
		code = append(code, api.Instr{Op: api.OPEN, At: api.ADD}, load(api.Int))
	}
	if !result {
		return code[:len(code)-1]
	}
	return code
}

func TestHowDeep(t *testing.T) {
	for n := range 14 {
		code := deepCode(n, true)
		want, at := api.ErrForm, len(code)
		if n == 0 {
			want, at = api.OK, 0
		}
		if n > 8 {
			want, at = api.ErrFull, 17
		}
		is(t, "open", code, want, at)
		closed := slices.Clone(code)
		for range n {
			closed = append(closed, api.Instr{Op: api.CLOSE})
		}
		if n <= 8 {
			want, at = api.OK, 0
		}
		is(t, "closed", closed, want, at)
		closed = append(closed, api.Instr{Op: api.CLOSE})
		if n <= 8 {
			want, at = api.ErrForm, len(closed)-1
		}
		is(t, "closed once too often", closed, want, at)
	}
	// Of one that has no place the kind is told first.
	for result := range 8 {
		for _, op := range []int{api.ADD, api.AND, api.EQ} {
			want := api.ErrType
			if among(table[op].own, result) {
				want = api.ErrFull
			}
			code := append(deepCode(8, false), loads(result)...)
			is(t, "the ninth", append(code, api.Instr{Op: api.OPEN, At: op}), want, len(code))
		}
	}
	// A place that became free is taken again.
	code := append(deepCode(8, true), api.Instr{Op: api.CLOSE}, api.Instr{Op: api.OPEN, At: api.SUB}, load(api.Int))
	is(t, "eight again", code, api.ErrForm, len(code))
	is(t, "the ninth again", append(code, api.Instr{Op: api.OPEN, At: api.SUB}), api.ErrFull, len(code))
}

func TestReturnsWithinBrackets(t *testing.T) {
	for n := range 9 {
		for result := range 8 {
			for op := api.RET; op <= api.RETCN; op++ {
				code := append(deepCode(n, false), loads(result)...)
				if n == 0 {
					code = loads(result)
				}
				at := len(code)
				want, wantAt := api.OK, 0
				if n > 0 {
					want, wantAt = api.ErrForm, at
				}
				if op != api.RET && result != api.Bool {
					want, wantAt = api.ErrType, at
				}
				is(t, "a return", append(code, api.Instr{Op: op}), want, wantAt)
			}
		}
	}
	tells(t, []told{
		{"RET / RETC", api.OK, 0},
		{"RETC", api.ErrType, 0},
		{"LD INT#1 / ADD( / RET / )", api.ErrForm, 2},
		{"LD INT#1 / ADD( / RETC / )", api.ErrType, 2},
		{"LD BOOL#1 / AND( / LD BOOL#1 / RETC / )", api.ErrForm, 3},
		{"LD BOOL#1 / AND( / LD BOOL#1 / RETCN / )", api.ErrForm, 3},
		{"LD BOOL#1 / AND( / LD BOOL#1 / ) / RETCN / NOT", api.OK, 0},
	})
}

// TestWhereTo leads a jump at each of some places to each place there is, and further.
func TestWhereTo(t *testing.T) {
	for _, n := range []int{2, 3, 10, 199, 200} {
		for _, at := range slices.Compact([]int{1, n / 2, n - 2, n - 1}) {
			for to := range 201 {
				if at < 1 || n > 20 && to > 4 && to < 195 && (to < at-3 || to > at+3) {
					continue
				}
				for op := api.JMP; op <= api.JMPCN; op++ {
					oneJump(t, n, at, to, op)
				}
			}
		}
	}
	tells(t, []told{
		{"JMP L0", api.ErrJump, 0},
		{"JMP L1", api.OK, 0},
		{"JMP L2", api.ErrJump, 0},
		{"JMP L200", api.ErrJump, 0},
		{"JMPC L0", api.ErrJump, 0},
		{"JMPC L1", api.ErrType, 0},
		{"JMPC L2", api.ErrJump, 0},
		{"LD BOOL#1 / JMPC L0", api.ErrJump, 1},
		{"LD BOOL#1 / JMPC L1", api.ErrJump, 1},
		{"LD BOOL#1 / JMPC L2", api.OK, 0},
		{"LD BOOL#1 / JMPCN L3", api.ErrJump, 1},
		{"LD INT#1 / JMPCN L0", api.ErrJump, 1},
		{"LD INT#1 / JMPCN L3", api.ErrJump, 1},
		{"LD INT#1 / JMPCN L2", api.ErrType, 1},
		{"LD INT#1 / JMP L2", api.OK, 0},
	})
}

// TestReturnsAndJumpsByResult asks each one that goes by the result behind a result of each kind, and behind none.
func TestReturnsAndJumpsByResult(t *testing.T) {
	for result := range 8 {
		for op := api.JMP; op <= api.RETCN; op++ {
			code := append(loads(result), api.Instr{Op: op})
			at := len(code) - 1
			if leaps(op) {
				code[at].At = at + 1
			}
			want, wantAt := api.OK, 0
			if op != api.JMP && op != api.RET && result != api.Bool {
				want, wantAt = api.ErrType, at
			}
			is(t, "by the result", code, want, wantAt)
			if leaps(op) {
				code[at].At = at
				is(t, "by the result, to itself", code, api.ErrJump, at)
			}
		}
	}
}

func oneJump(t *testing.T, n, at, to, op int) {
	t.Helper()
	for result, ok := range map[int]bool{api.Bool: true, api.Int: op == api.JMP} {
		code := rets(n)
		for before := range at {
			code[before] = load(result)
		}
		code[at] = api.Instr{Op: op, At: to}
		want, wantAt := api.OK, 0
		if !ok {
			want, wantAt = api.ErrType, at
		}
		if to <= at || to > n {
			want, wantAt = api.ErrJump, at
		}
		is(t, "a jump", code, want, wantAt)
		kinds, _ := Kinds(code)
		if want != api.OK {
			continue
		}
		for place := at + 1; place < n; place++ {
			wantKind := -1
			if place == to || place == at+1 && op != api.JMP {
				wantKind = result
			}
			if kinds[place] != wantKind {
				t.Fatalf("Kinds(%s) = %v", show(code), kinds)
			}
		}
	}
}

func TestTheEndWithBrackets(t *testing.T) {
	tells(t, []told{
		{"LD INT#1 / ADD(", api.ErrForm, 2},
		{"LD INT#1 / ADD( / LD INT#1", api.ErrForm, 3},
		{"LD INT#1 / ADD( / JMP L3", api.ErrForm, 3},
		{"LD INT#1 / ADD( / JMP L4 / )", api.ErrForm, 4},
		{"LD INT#1 / ADD( / JMP L6 / LD INT#1 / ) / RET", api.ErrForm, 6},
		{"LD BOOL#1 / AND( / LD BOOL#1 / JMPC L6 / NOT / JMP L6", api.ErrForm, 6},
		{"LD BOOL#1 / AND( / LD BOOL#1 / JMPC L6 / ) / RET", api.ErrForm, 6},
		{"LD BOOL#1 / AND( / LD BOOL#1 / JMPC L5 / )", api.ErrJump, 4},
		{"LD BOOL#1 / JMPC L4 / AND( / LD BOOL#1", api.ErrJump, 3},
		{"LD BOOL#1 / JMPC L5 / AND( / LD BOOL#1 / JMP L5", api.ErrJump, 4},
		{"LD BOOL#1 / JMPC L5 / AND( / LD BOOL#1 / )", api.OK, 0},
		{"LD BOOL#1 / AND( / RET", api.ErrForm, 2},
		{"RET / AND( / OR(", api.OK, 0},
		{"JMP L3 / AND( / OR(", api.OK, 0},
		{"LD BOOL#1 / AND( / LD BOOL#1 / ) / JMP L7 / OR( / )", api.OK, 0},
	})
}

func TestWaysThatMeet(t *testing.T) {
	kinded(t, map[string]string{
		"LD BOOL#1 / JMPC L3 / LD BOOL#0 / NOT":                                                      "0 1 1 1",
		"LD BOOL#1 / JMPC L3 / LD INT#1 / LD INT#2":                                                  "0 1 1 0",
		"LD BOOL#1 / JMPC L3 / LD INT#1 / RET":                                                       "0 1 1 0",
		"LD BOOL#1 / JMPC L3 / LD INT#1 / JMP L4 / JMP L5 / LDN BOOL#1 / NOT":                        "0 1 1 0 0 0 1",
		"LD BOOL#1 / JMPC L2 / NOT":                                                                  "0 1 1",
		"LD BOOL#1 / JMPC L4 / JMPCN L4 / JMP L4 / NOT":                                              "0 1 1 1 1",
		"LD BOOL#1 / JMPC L5 / JMPCN L5 / LD INT#1 / JMP L5 / RET":                                   "0 1 1 1 3 0",
		"LD BOOL#1 / JMPC L6 / CONV INT / GT INT#0 / JMPC L6 / NOT / RETC":                           "0 1 1 3 1 1 1",
		"LD BOOL#1 / JMPC L3 / JMP L5 / LD INT#1 / JMP L6 / LD INT#2 / ST %M0:INT":                   "0 1 1 1 3 1 3",
		"LD BOOL#1 / AND( / LD BOOL#1 / JMPC L5 / CONV INT / LD BOOL#1 / )":                          "0 1 0 1 1 0 1",
		"LD BOOL#1 / JMPC L5 / LD INT#1 / JMP L6 / NOT / LD INT#2 / ADD INT#1":                       "0 1 1 3 -1 1 3",
		"JMP L3 / LD INT#1 / LD BOOL#1 / LD WORD#1 / NOT":                                            "0 -1 -1 0 6",
		"JMP L2 / LD INT#1 / LD WORD#1 / NOT":                                                        "0 -1 0 6",
		"LD BOOL#1 / JMP L4 / LD INT#1 / CONV INT / NOT":                                             "0 1 -1 -1 1",
		"LD BOOL#1 / JMP L4 / AND( / OR( / NOT":                                                      "0 1 -1 -1 1",
		"LD BOOL#1 / JMP L4 / AND( / JMP L4 / NOT":                                                   "0 1 -1 -1 1",
		"LD BOOL#1 / JMP L3 / JMP L0 / NOT":                                                          "0 1 -1 1",
		"LD INT#1 / LT( / LD INT#2 / ) / RETC / JMP L7 / ) / NOT":                                    "0 3 0 3 1 1 -1 1",
		"LD BOOL#1 / JMPC L5 / XOR( / LD BOOL#0 / ) / JMPC L7 / OR BOOL#1 / RET":                     "0 1 1 0 1 1 1 1",
		"LD BOOL#1 / OR( / LD BOOL#1 / JMPC L6 / XOR( / JMP L7 / JMP L9 / LD BOOL#1 / ) / NOT / )":   "0 1 0 1 1 0 1 0 1 1 1",
		"RET / ADD INT#1 / ) / JMP L0 / RETC / S %Q0:WORD / LDN INT#1 / STN %Q0:INT / NOT / ADD( ":   "0 -1 -1 -1 -1 -1 -1 -1 -1 -1",
		"LD BOOL#1 / JMPC L3 / RET / JMPC L5 / RET / JMPC L7 / RET / NOT":                            "0 1 1 1 1 1 1 1",
		"LD BOOL#1 / JMPC L4 / JMPC L6 / RET / CONV SINT / CONV BOOL / JMP L8 / NOT / RETC":          "0 1 1 1 1 2 1 -1 1",
		"LD BOOL#1 / JMPC L4 / JMPC L6 / RET / CONV SINT / JMP L7 / CONV DINT / JMP L8 / LD BOOL#1 ": "0 1 1 1 1 2 1 0 0",
	})
}

// branch leaves a result of that kind where one of BOOL is ahead: of 0 none, since unlike ones meet.
func branch(code []api.Instr, kind int) []api.Instr {
	if kind > 0 {
		return append(code, load(kind))
	}
	return append(code, api.Instr{Op: api.JMPCN, At: len(code) + 2}, load(api.Int))
}

// meeting lets two ways lead to the end, the first one with a result of that kind, the other one with one of another; 0 is none.
func meeting(first, other int) []api.Instr {
	code := branch([]api.Instr{load(api.Bool), {Op: api.JMPC}}, first)
	jump := len(code)
	code = append(code, api.Instr{Op: api.JMP})
	code[1].At = len(code)
	code = branch(code, other)
	code = append(code, api.Instr{Op: api.JMP, At: len(code) + 1})
	code[jump].At = len(code)
	return code
}

// TestUnlikeResults lets each two results meet, and holds that what asks for a result finds none where they are unlike, and that what asks for none doesn't mind.
func TestUnlikeResults(t *testing.T) {
	for first := range 8 {
		for other := range 8 {
			code := meeting(first, other)
			at, kind := len(code), 0
			if first == other {
				kind = first
			}
			if kinds, ok := Kinds(append(code, api.Instr{Op: api.RET})); !ok || kinds[at] != kind {
				t.Fatalf("Kinds of %s and RET: %v, %v", show(code), kinds, ok)
			}
			for _, ask := range lines(t, "LD INT#1 / LDN BOOL#1 / ST %Q0:BOOL / STN %Q0:WORD / S %M0:BOOL / NOT / AND DWORD#1 / ADD SINT#1 / GT DINT#1 / CONV INT / RET / RETC / RETCN / TON %M0,1 / CTU %M0,1 / TRIG %M0") {
				further := append(slices.Clone(code), api.Instr{Op: api.JMP, At: at + 1}, ask)
				here := append(slices.Clone(code), ask)
				if table[ask.Op].fits(ask.Kind, kind) {
					is(t, "where they meet", here, api.OK, 0)
					is(t, "one further", further, api.OK, 0)
				} else {
					is(t, "where they meet", here, api.ErrType, at)
					is(t, "one further", further, api.ErrType, at+1)
				}
			}
		}
	}
}

// TestJumpsAndBracketsWhereUnlikeResultsMeet holds what is asked for of BOOL, and of a kind of an operation.
func TestJumpsAndBracketsWhereUnlikeResultsMeet(t *testing.T) {
	tells(t, []told{
		{"LD BOOL#1 / JMPC L3 / LD INT#1 / JMPC L4", api.ErrType, 3},
		{"LD BOOL#1 / JMPC L3 / LD INT#1 / JMPCN L4", api.ErrType, 3},
		{"LD BOOL#1 / JMPC L3 / LD INT#1 / JMP L4", api.OK, 0},
		{"LD BOOL#1 / JMPC L3 / LD INT#1 / EQ( / )", api.ErrType, 3},
		{"LD BOOL#1 / JMPC L3 / LD BOOL#0 / EQ( / LD BOOL#1 / )", api.OK, 0},
		{"LD BOOL#1 / EQ( / LD BOOL#1 / JMPC L5 / CONV INT / )", api.ErrType, 5},
		{"LD BOOL#1 / EQ( / LD BOOL#1 / JMPC L5 / NOT / )", api.OK, 0},
		// Two like ones and an unlike one, in each order.
		{"LD BOOL#1 / JMPC L5 / JMPC L5 / LD INT#1 / JMP L5 / NOT", api.ErrType, 5},
		{"LD BOOL#1 / JMPC L6 / JMPC L4 / RET / LD INT#1 / JMP L7 / JMP L7 / NOT", api.ErrType, 7},
		{"LD BOOL#1 / JMPC L6 / JMPC L4 / JMP L8 / CONV INT / JMP L8 / CONV BOOL / JMP L8 / NOT", api.ErrType, 8},
		{"LD BOOL#1 / JMPC L6 / JMPC L4 / JMP L8 / NOT / JMP L8 / CONV INT / JMP L8 / NOT", api.ErrType, 8},
		{"LD BOOL#1 / JMPC L6 / JMPC L5 / CONV INT / JMP L7 / JMP L7 / JMP L7 / CONV INT", api.ErrType, 7},
		{"LD BOOL#1 / JMPC L6 / JMPC L4 / JMP L8 / NOT / JMP L8 / CONV BOOL / JMP L8 / NOT", api.OK, 0},
		// What isn't reached brings no result.
		{"LD BOOL#1 / JMP L4 / LD INT#1 / JMP L4 / NOT", api.OK, 0},
		{"LD BOOL#1 / JMP L3 / LD INT#1 / NOT", api.OK, 0},
	})
}

func TestOtherBracketsMeet(t *testing.T) {
	tells(t, []told{
		// Of another number.
		{"LD BOOL#1 / JMPC L4 / AND( / LD BOOL#1 / NOT / )", api.ErrJump, 3},
		{"LD BOOL#1 / AND( / LD BOOL#1 / JMPC L5 / ) / NOT", api.ErrJump, 4},
		{"LD BOOL#1 / AND( / LD BOOL#1 / JMPC L6 / AND( / LD BOOL#1 / NOT / )", api.ErrJump, 5},
		{"LD BOOL#1 / JMPC L3 / AND( / LD BOOL#1", api.ErrJump, 2},
		// Of another operation.
		{"LD BOOL#1 / JMPC L4 / AND( / JMP L5 / OR( / LD BOOL#1 / )", api.ErrJump, 4},
		{"LD BOOL#1 / JMPC L4 / AND( / JMP L5 / AND( / LD BOOL#1 / )", api.OK, 0},
		{"LD BOOL#1 / JMPC L4 / EQ( / JMP L5 / NE( / LD BOOL#1 / )", api.ErrJump, 4},
		// Of another kind.
		{"LD BOOL#1 / JMPC L5 / LD INT#1 / ADD( / JMP L7 / LD DINT#1 / ADD( / LD INT#1 / )", api.ErrJump, 6},
		{"LD BOOL#1 / JMPC L5 / LD INT#1 / ADD( / JMP L7 / LD INT#1 / ADD( / LD INT#1 / )", api.OK, 0},
		{"LD BOOL#1 / JMPC L5 / LD BOOL#1 / EQ( / JMP L7 / LD SINT#1 / EQ( / LD BOOL#1 / )", api.ErrJump, 6},
		// Two that are open in another order, and an outer one that differs where the inner one doesn't.
		{"LD BOOL#1 / JMPC L6 / AND( / LD BOOL#1 / OR( / JMP L9 / OR( / LD BOOL#1 / AND( / LD BOOL#1 / ) / )", api.ErrJump, 8},
		{"LD BOOL#1 / JMPC L6 / AND( / LD BOOL#1 / OR( / JMP L9 / XOR( / LD BOOL#1 / OR( / LD BOOL#1 / ) / )", api.ErrJump, 8},
		{"LD BOOL#1 / JMPC L6 / AND( / LD BOOL#1 / OR( / JMP L9 / AND( / LD BOOL#1 / OR( / LD BOOL#1 / ) / )", api.OK, 0},
		// A bracket that was closed, and one like it opened, is the same.
		{"LD BOOL#1 / AND( / LD BOOL#1 / JMPC L6 / ) / AND( / LD BOOL#1 / )", api.OK, 0},
		{"LD BOOL#1 / AND( / LD BOOL#1 / JMPC L6 / ) / OR( / LD BOOL#1 / )", api.ErrJump, 5},
		// The third one that leads there has others; of two the one that stands first is right.
		{"LD BOOL#1 / JMPC L6 / JMPCN L6 / AND( / LD BOOL#1 / JMPC L6 / RET", api.ErrJump, 5},
		{"LD BOOL#1 / AND( / LD BOOL#1 / JMPC L8 / JMPCN L8 / ) / JMPC L8 / RET / NOT", api.ErrJump, 6},
		// What isn't reached leads nowhere.
		{"LD BOOL#1 / JMP L4 / AND( / JMP L4 / NOT", api.OK, 0},
		{"LD BOOL#1 / AND( / LD BOOL#1 / JMP L7 / ) / JMP L7 / RET / )", api.OK, 0},
		// A RET leads nowhere, with or without a bracket.
		{"LD BOOL#1 / JMPC L3 / RET / AND( / LD BOOL#1 / )", api.OK, 0},
		// Of one that leads with other brackets and to no such number, or with no such result, the other is told.
		{"LD BOOL#1 / JMPC L4 / AND( / JMPC L4 / NOT", api.ErrType, 3},
		{"LD BOOL#1 / JMPC L5 / AND( / LD BOOL#1 / JMPC L4 / NOT", api.ErrJump, 4},
		{"LD BOOL#1 / JMPC L4 / AND( / ADD INT#1 / NOT", api.ErrType, 3},
		{"LD BOOL#1 / JMPC L3 / GT( / )", api.ErrJump, 2},
	})
}

// TestTheFirstErrorIsTold puts two errors into one program: the one that stands first is told, whatever the other one is.
func TestTheFirstErrorIsTold(t *testing.T) {
	errors := []told{
		{"JMP L0", api.ErrJump, 0},
		{"JMPC L199", api.ErrJump, 0},
		{"ADD DINT#1", api.ErrType, 0},
		{"LDN INT#1", api.ErrType, 0},
		{"RETC", api.ErrType, 0},
	}
	for _, first := range errors {
		one := lines(t, first.text)
		for _, second := range append(errors, told{")", api.ErrForm, 0}) {
			for _, between := range []string{"", "LD INT#1 / ", "RET / ", "LD INT#1 / ADD( / "} {
				code := lines(t, "LD INT#1 / "+first.text+" / "+between+second.text)
				is(t, "two", code, first.want, 1)
			}
			is(t, "behind a CLOSE", lines(t, "LD INT#1 / ) / "+second.text), api.ErrForm, 1)
		}
		is(t, "one that may not be, behind it", slices.Concat([]api.Instr{load(api.Int)}, one, []api.Instr{{}}), first.want, 1)
		is(t, "one that may not be, ahead of it", slices.Concat([]api.Instr{load(api.Int), {}}, one), api.ErrForm, 1)
		is(t, "an open bracket at the end", lines(t, "LD INT#1 / ADD( / LD INT#1 / "+first.text), first.want, 3)
	}
	tells(t, []told{
		{"LD INT#1 / ADD( / LD DINT#1 / )", api.ErrType, 3},
		{"RET / JMP L0", api.OK, 0},
		{"LD INT#1 / AND( / LD INT#1 / )", api.ErrType, 1},
		{"LD INT#1 / AND( / LD INT#1", api.ErrType, 1},
		{"LD BOOL#1 / AND( / LD BOOL#1 / ADD INT#1", api.ErrType, 3},
	})
	is(t, "one that may not be, behind a RET", []api.Instr{{Op: api.RET}, {}}, api.ErrForm, 1)
	is(t, "two that may not be", []api.Instr{{Op: api.RET}, {}, {}}, api.ErrForm, 1)
	is(t, "one that may not be, within an open bracket", []api.Instr{load(api.Int), {Op: api.OPEN, At: api.ADD}, {}}, api.ErrForm, 2)
	is(t, "a jump that may not be", []api.Instr{{Op: api.JMP, At: 201}}, api.ErrForm, 0)
	is(t, "a jump that may be, but leads too far", []api.Instr{{Op: api.JMP, At: 200}}, api.ErrJump, 0)
}

// TestWritesAndReads asks each operation with each area and kind, at both ends and in the middle, and with a literal.
func TestWritesAndReads(t *testing.T) {
	for op, r := range table {
		for kind := 1; kind <= 7; kind++ {
			if op == api.CONV || !among(r.own, kind) {
				continue
			}
			size := sizeOf(kind)
			for area := api.Input; area <= api.Retain; area++ {
				for _, at := range []int{0, 1, 31, 64 - size - 1, 64 - size} {
					bits := uint64(math.MaxUint64) >> (64 - size) << at
					i := api.Instr{Op: op, Kind: kind, Area: area, At: at}
					if op >= api.ST && op <= api.R {
						oneUse(t, i, bits, 0)
					} else {
						oneUse(t, i, 0, bits)
					}
				}
			}
			if op < api.ST || op > api.R {
				oneUse(t, api.Instr{Op: op, Kind: kind, N: 1}, 0, 0)
			}
		}
	}
	for area := api.Memory; area <= api.Retain; area++ {
		for at := range 64 {
			if at < 60 {
				oneUse(t, api.Instr{Op: api.TON, Area: area, At: at, N: 5}, 31<<at, 31<<at)
				oneUse(t, api.Instr{Op: api.CTU, Area: area, At: at, N: 5}, 31<<at, 31<<at)
			}
			oneUse(t, api.Instr{Op: api.TRIG, Area: area, At: at}, 1<<at, 1<<at)
		}
	}
}

// oneUse holds which bytes of its area an instruction writes and reads: reached, and not.
func oneUse(t *testing.T, i api.Instr, writes, reads uint64) {
	t.Helper()
	ahead := load(i.Kind)
	if i.Kind == 0 {
		ahead.Kind = api.Bool
	}
	code := []api.Instr{ahead, i}
	if i.Op >= api.ST && i.Op <= api.R && i.Area == api.Input {
		is(t, "no place to write", code, api.ErrForm, 1)
		uses(t, code, [4]uint64{}, [4]uint64{})
		return
	}
	is(t, "one", code, api.OK, 0)
	var wantWrites, wantReads [4]uint64
	if i.Area > 0 {
		wantWrites[i.Area-1], wantReads[i.Area-1] = writes, reads
	}
	uses(t, code, wantWrites, wantReads)
	for _, gone := range [][]api.Instr{
		{ahead, {Op: api.RET}, i},
		{ahead, {Op: api.JMP, At: 3}, i},
		{ahead, {Op: api.JMP, At: 3}, i, {Op: api.RET}},
		{ahead, i, {}},
		{ahead, i, {Op: api.CLOSE}},
		{ahead, i, load(api.Int), {Op: api.OPEN, At: api.ADD}},
	} {
		holds(t, gone)
		uses(t, gone, [4]uint64{}, [4]uint64{})
	}
}

// uses holds what Writes and Reads tell.
func uses(t *testing.T, code []api.Instr, writes, reads [4]uint64) {
	t.Helper()
	if got := Writes(code); got != writes {
		t.Fatalf("Writes(%s) = %x, want %x", show(code), got, writes)
	}
	if got := Reads(code); got != reads {
		t.Fatalf("Reads(%s) = %x, want %x", show(code), got, reads)
	}
}

func TestUsesOfPrograms(t *testing.T) {
	code := lines(t, "LD %I0:INT / ST %Q62:INT / LD %M4:BOOL / S %R0:BOOL / TON %M8,5 / TRIG %R63 / RET / LD %I9:BOOL / ST %Q9:BOOL")
	uses(t, code, [4]uint64{0, 3 << 62, 31 << 8, 1<<63 | 1}, [4]uint64{3, 0, 31<<8 | 1<<4, 1 << 63})
	code = lines(t, "LD %I60:DWORD / ST %M0:DWORD / ST %M2:DWORD / LDN %Q0:BOOL / STN %Q0:BOOL / R %Q1:BOOL / AND( / LD %R0:WORD / EQ( / LD %R1:WORD / ) / ) / CTU %R59,1")
	uses(t, code, [4]uint64{0, 3, 63, 31 << 59}, [4]uint64{15 << 60, 1, 0, 31<<59 | 7})
	// A literal, and a jump's and a bracket's number, are no places.
	uses(t, lines(t, "LD BOOL#1 / AND( / LD BOOL#1 / ) / JMPC L5"), [4]uint64{}, [4]uint64{})
	// All of each area.
	code = []api.Instr{}
	for area := api.Input; area <= api.Retain; area++ {
		for at := 0; at < 64; at += 4 {
			code = append(code, api.Instr{Op: api.LD, Kind: api.Dint, Area: area, At: at})
			if area > api.Input {
				code = append(code, api.Instr{Op: api.ST, Kind: api.Dint, Area: area, At: at})
			}
		}
	}
	all := uint64(math.MaxUint64)
	is(t, "all", code, api.OK, 0)
	uses(t, code, [4]uint64{0, all, all, all}, [4]uint64{all, all, all, all})
}

// alphabet is a few instructions of each sort, with jumps to all places up to a number.
func alphabet(t *testing.T, most int) []api.Instr {
	t.Helper()
	list := lines(t, "LD BOOL#1 / LD INT#1 / ADD INT#1 / GT INT#1 / AND( / ADD( / EQ( / ) / NOT / CONV INT / CONV BOOL / RET / RETC / S %Q0:BOOL / TRIG %M0 / ST %Q1:INT")
	for to := range most + 1 {
		list = append(list, api.Instr{Op: api.JMP, At: to}, api.Instr{Op: api.JMPC, At: to})
	}
	return append(list, api.Instr{})
}

// TestAllShortPrograms goes through all programs of up to four of the alphabet, and through longer ones of which only the last two are any.
func TestAllShortPrograms(t *testing.T) {
	seen := map[api.Errno]int{}
	var all func(code []api.Instr, list []api.Instr, more int)
	all = func(code []api.Instr, list []api.Instr, more int) {
		e, _ := holds(t, code)
		seen[e]++
		if more == 0 {
			return
		}
		for _, i := range list {
			all(append(code[:len(code):len(code)], i), list, more-1)
		}
	}
	all(nil, alphabet(t, 4), 4)
	few := alphabet(t, 8)
	all(lines(t, "LD BOOL#1 / JMPC L4 / AND("), few, 2)
	all(lines(t, "LD BOOL#1 / JMPC L5 / AND( / LD BOOL#1"), few, 2)
	all(lines(t, "LD BOOL#1 / AND( / LD BOOL#1 / JMPC L6"), few, 2)
	all(lines(t, "LD BOOL#1 / JMPC L6 / LD INT#1"), few, 2)
	for _, e := range []api.Errno{api.OK, api.ErrForm, api.ErrType, api.ErrJump} {
		if seen[e] < 100 {
			t.Errorf("%d of error %d", seen[e], e)
		}
	}
}

// writer writes a program that may run, as it is drawn.
type writer struct {
	d    *dice
	code []api.Instr
	deep int
}

// operand is one of an operation and a kind, with a literal or a place.
func (w *writer) operand(op, kind int) api.Instr {
	at := w.d.below(65 - sizeOf(kind))
	if op >= api.ST && op <= api.R {
		return api.Instr{Op: op, Kind: kind, Area: api.Output + w.d.below(3), At: at}
	}
	if w.d.below(3) == 0 {
		return api.Instr{Op: op, Kind: kind, N: int64(w.d.below(2))}
	}
	return api.Instr{Op: op, Kind: kind, Area: api.Input + w.d.below(4), At: at}
}

func (w *writer) put(i api.Instr) {
	w.code = append(w.code, i)
}

// joining is an operation that is done with a kind, and leaves it.
func (w *writer) joining(kind int) int {
	if among(bits, kind) {
		return api.AND + w.d.below(6)
	}
	return api.ADD + w.d.below(5)
}

// value writes what leaves a result of a kind.
func (w *writer) value(kind int) {
	w.put(w.operand(api.LD, kind))
	for range w.d.below(3) {
		switch w.d.below(5) {
		case 0:
			w.put(w.operand(w.joining(kind), kind))
		case 1:
			w.bracket(w.joining(kind), kind)
		case 2:
			w.put(api.Instr{Op: api.CONV, Kind: kind})
		case 3:
			w.conditions(kind)
		default:
			w.put(w.operand(api.GT+w.d.below(6), kind))
			w.put(api.Instr{Op: api.CONV, Kind: kind})
		}
	}
}

// bracket tells whether there was a place for one.
func (w *writer) bracket(op, kind int) bool {
	if w.deep == 8 || len(w.code) > 150 {
		return false
	}
	w.put(api.Instr{Op: api.OPEN, At: op})
	w.deep++
	w.value(kind)
	w.deep--
	w.put(api.Instr{Op: api.CLOSE})
	return true
}

// conditions writes what hangs on a result of BOOL, and leaves a result of the kind.
func (w *writer) conditions(kind int) {
	w.put(api.Instr{Op: api.CONV, Kind: api.Bool})
	switch w.d.below(6) {
	case 0:
		w.put(api.Instr{Op: api.TON + w.d.below(2), Area: api.Memory + w.d.below(2), At: w.d.below(60), N: 1 + int64(w.d.below(9999))})
	case 1:
		w.put(api.Instr{Op: api.TRIG, Area: api.Memory + w.d.below(2), At: w.d.below(64)})
	case 2:
		w.put(w.operand(api.S+w.d.below(2), api.Bool))
	case 3:
		if w.deep == 0 {
			w.put(api.Instr{Op: api.RET + 1 + w.d.below(2)})
		}
	default:
		w.jump(kind)
		return
	}
	w.put(api.Instr{Op: api.CONV, Kind: kind})
}

// jump writes one that leads past some others; where what meets is unlike, a result is loaded anew.
func (w *writer) jump(kind int) {
	from := len(w.code)
	w.put(api.Instr{Op: api.JMP + w.d.below(3)})
	within := 1 + w.d.below(7)
	if len(w.code) < 150 {
		w.value(within)
	}
	w.code[from].At = len(w.code)
	if w.code[from].Op == api.JMP {
		w.put(api.Instr{Op: api.CONV, Kind: kind})
		return
	}
	w.put(w.operand(api.LD, kind))
}

// drawn is a program of some values that are kept; it may run, if it isn't too long.
func drawn(d *dice, most int) []api.Instr {
	w := &writer{d: d}
	for len(w.code) < most {
		kind := 1 + d.below(7)
		w.value(kind)
		if d.below(3) == 0 && w.bracket(api.GT+d.below(6), kind) {
			kind = api.Bool
		}
		w.put(w.operand(api.ST, kind))
	}
	return w.code
}

// hurt changes a program in one place, or in two.
func hurt(d *dice, code []api.Instr, list []api.Instr) []api.Instr {
	code = slices.Clone(code)
	for range 1 + d.below(2) {
		at := d.below(len(code))
		switch d.below(6) {
		case 0:
			code = slices.Delete(code, at, at+1)
		case 1:
			code = slices.Insert(code, at, anyOf(d, list))
		case 2:
			code[at].At = d.below(len(code) + 2)
		case 3:
			code[at].Kind = d.below(8)
		case 4:
			other := d.below(len(code))
			code[at], code[other] = code[other], code[at]
		default:
			code[at] = anyOf(d, list)
		}
		if len(code) == 0 {
			break
		}
	}
	return code
}

func TestDrawnPrograms(t *testing.T) {
	d := dice(14)
	seen := map[api.Errno]int{}
	jumps := 0
	list := alphabet(t, 60)
	for range 6000 {
		code := drawn(&d, 1+d.below(60))
		e, _ := holds(t, code)
		if e != api.OK && e != api.ErrLong {
			t.Fatalf("%s: %d", show(code), e)
		}
		seen[e]++
		if slices.ContainsFunc(code, func(i api.Instr) bool { return i.Op == api.JMPC }) && slices.ContainsFunc(code, func(i api.Instr) bool { return i.Op == api.OPEN }) {
			jumps++
		}
		e, _ = holds(t, hurt(&d, code, list))
		seen[e]++
	}
	if jumps < 1000 {
		t.Errorf("only %d with jumps and brackets", jumps)
	}
	for _, e := range []api.Errno{api.OK, api.ErrForm, api.ErrType, api.ErrJump} {
		if seen[e] < 300 {
			t.Errorf("%d were drawn of error %d", seen[e], e)
		}
	}
}

// TestDrawnStepByStep draws programs whose beginnings have no error, so that they come far; jumps lead to anywhere behind them.
func TestDrawnStepByStep(t *testing.T) {
	d := dice(15)
	list := alphabet(t, 0)
	seen := map[api.Errno]int{}
	for range 8000 {
		n := 3 + d.below(22)
		if d.below(40) == 0 {
			n = 200
		}
		code := rets(n)
		for at := range code {
			for range 12 {
				code[at] = anyOf(&d, list)
				if leaps(code[at].Op) {
					code[at].At = at + 1 + d.below(min(n-at, 9))
				}
				if e, wrong := Check(code); e == api.OK || wrong > at {
					break
				}
			}
		}
		e, _ := holds(t, code)
		seen[e]++
	}
	for _, e := range []api.Errno{api.OK, api.ErrForm, api.ErrType, api.ErrJump} {
		if seen[e] < 10 {
			t.Errorf("%d were drawn of error %d: %v", seen[e], e, seen)
		}
	}
}

// TestDrawnNumbers draws instructions of any numbers.
func TestDrawnNumbers(t *testing.T) {
	d := dice(16)
	some := []int{math.MinInt, math.MinInt32, -256, -65, -64, -1, 0, 1, 2, 3, 4, 5, 7, 8, 13, 24, 25, 32, 33, 36, 37, 59, 60, 63, 64, 65, 199, 200, 201, 256, 257, math.MaxInt32, math.MaxInt - 1, math.MaxInt}
	for range 40000 {
		code := make([]api.Instr, d.below(5))
		for at := range code {
			code[at] = api.Instr{Op: anyOf(&d, some), Kind: anyOf(&d, some), Area: anyOf(&d, some), At: anyOf(&d, some), N: int64(anyOf(&d, some))}
			if d.below(2) == 0 {
				code[at] = load(1 + d.below(7))
			}
		}
		holds(t, code)
	}
	for op := -3; op < 42; op++ {
		for _, at := range some {
			for kind := -1; kind < 9; kind++ {
				holds(t, []api.Instr{load(api.Bool), {Op: op, Kind: kind, At: at}, {Op: op, Area: kind, At: at}})
			}
		}
	}
}

// TestWhatIsHandedInStays looks at what lies behind the slice's end, too.
func TestWhatIsHandedInStays(t *testing.T) {
	d := dice(17)
	for _, n := range []int{0, 1, 2, 50, 199, 200, 201, 300} {
		all := append(drawn(&d, 300), rets(10)...)
		kept := slices.Clone(all)
		Check(all[:n])
		Kinds(all[:n])
		Writes(all[:n])
		Reads(all[:n])
		if !slices.Equal(all, kept) {
			t.Errorf("a program of %d was changed", n)
		}
	}
}

// TestWhatWasAnsweredStays changes what was handed in, and one answer, calls other things, and looks at the other answers.
func TestWhatWasAnsweredStays(t *testing.T) {
	code := lines(t, "LD BOOL#1 / JMPC L3 / LD INT#1 / LD INT#2 / JMP L6 / NOT / ST %M0:INT")
	want := []int{0, 1, 1, 0, 3, -1, 3}
	first, _ := Kinds(code)
	second, _ := Kinds(code)
	writes, reads := Writes(code), Reads(code)
	for at := range first {
		first[at] = 99
	}
	first = append(first[:3], 98, 97)
	if !slices.Equal(second, want) {
		t.Error("two answers share their memory")
	}
	third, _ := Kinds(code)
	for at := range code {
		code[at] = api.Instr{Op: api.CLOSE}
	}
	for _, other := range [][]api.Instr{code, nil, long(200), long(201), rets(9), {{}}, deepCode(8, true)} {
		holds(t, other)
	}
	if !slices.Equal(second, want) || !slices.Equal(third, want) || writes != [4]uint64{0, 0, 3, 0} || reads != [4]uint64{} || first[4] != 97 {
		t.Errorf("an answer was changed: %v, %v, %x, %x", second, third, writes, reads)
	}
}

// TestAnyOrder asks the same again, with other things between.
func TestAnyOrder(t *testing.T) {
	d := dice(18)
	programs := [][]api.Instr{nil, long(1), long(200), long(201), rets(3), {{}}, deepCode(8, true), deepCode(9, true), lines(t, "LD BOOL#1 / JMPC L3 / LD INT#1 / CONV INT")}
	for range 40 {
		programs = append(programs, drawn(&d, 1+d.below(40)), hurt(&d, drawn(&d, 1+d.below(40)), alphabet(t, 20)))
	}
	first := []string{}
	for _, code := range programs {
		first = append(first, answers(code))
	}
	for range 3000 {
		n := d.below(len(programs))
		if got := answers(slices.Clone(programs[n])); got != first[n] {
			t.Fatalf("%s: %s, and %s", show(programs[n]), first[n], got)
		}
	}
}

// answers are those of all calls, as a text.
func answers(code []api.Instr) string {
	e, at := Check(code)
	kinds, ok := Kinds(code)
	return fmt.Sprint(e, at, kinds, ok, Writes(code), Reads(code))
}
