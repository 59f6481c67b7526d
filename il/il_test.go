package il

import (
	"fmt"
	"math"
	"regexp"
	"slices"
	"strconv"
	"strings"
	"testing"

	"fugleman/api"
)

// trait is what chapter 11 says of a kind.
type trait struct {
	kind        int
	name        string
	size        int
	least, most int64
}

func traits() []trait {
	return []trait{
		{api.Bool, "BOOL", 1, 0, 1},
		{api.Sint, "SINT", 1, -128, 127},
		{api.Int, "INT", 2, -32768, 32767},
		{api.Dint, "DINT", 4, -2147483648, 2147483647},
		{api.Uint, "UINT", 2, 0, 65535},
		{api.Word, "WORD", 2, 0, 65535},
		{api.Dword, "DWORD", 4, 0, 4294967295},
	}
}

func traitNamed(name string) (trait, bool) {
	for _, tr := range traits() {
		if tr.name == name {
			return tr, true
		}
	}
	return trait{}, false
}

// opNames are those of all operations that have one.
func opNames() map[int]string {
	return map[int]string{
		1: "LD", 2: "LDN", 3: "ST", 4: "STN", 5: "S", 6: "R", 7: "AND", 8: "OR", 9: "XOR", 10: "ANDN", 11: "ORN", 12: "XORN", 13: "NOT",
		14: "ADD", 15: "SUB", 16: "MUL", 17: "DIV", 18: "MOD", 19: "GT", 20: "GE", 21: "EQ", 22: "NE", 23: "LE", 24: "LT",
		25: "JMP", 26: "JMPC", 27: "JMPCN", 28: "RET", 29: "RETC", 30: "RETCN", 31: "CONV", 34: "TON", 35: "CTU", 36: "TRIG",
	}
}

// noOps are numbers that are no operations, many of them with one in their lowest bits.
func noOps() []int {
	return []int{math.MinInt, math.MinInt + 1, -1<<32 + 7, -65536 + 13, -256 + 28, -37, -36, -32, -14, -7, -2, -1, 0, 37, 38, 39, 63, 64, 65, 64 + 13, 128 + 28, 256 + 1, 256 + 33, 65536 + 25, 1 << 31, 1<<32 + 1, 1<<32 + 28, math.MaxInt - 1, math.MaxInt}
}

func allOps() []int {
	list := noOps()
	for op := api.LD; op <= api.TRIG; op++ {
		list = append(list, op)
	}
	return list
}

// someKinds are all kinds, and numbers that are none.
func someKinds() []int {
	return []int{math.MinInt, -1<<32 + 3, -256 + 1, -7, -1, 0, 1, 2, 3, 4, 5, 6, 7, 8, 9, 15, 256 + 1, 1<<32 + 3, math.MaxInt}
}

// someAreas are all areas, no area, and numbers that are none.
func someAreas() []int {
	return []int{math.MinInt, -1<<32 + 1, -256 + 3, -4, -1, 0, 1, 2, 3, 4, 5, 6, 256 + 3, 1<<32 + 3, math.MaxInt}
}

// somePlaces lie at each end of what any operation may have, and beside it.
func somePlaces() []int {
	return []int{math.MinInt, math.MinInt + 4, -1<<32 + 7, -256, -5, -1, 0, 1, 3, 6, 7, 8, 12, 13, 14, 18, 24, 25, 31, 32, 58, 59, 60, 61, 62, 63, 64, 65, 99, 100, 199, 200, 201, 255, 256, 256 + 7, 1 << 32, 1<<32 + 7, math.MaxInt - 4, math.MaxInt - 1, math.MaxInt}
}

// someNumbers lie at each end of the kinds, and of what TON and CTU may have, and beside it.
func someNumbers() []int64 {
	list := []int64{math.MinInt64, math.MinInt64 + 1, -1 << 32, -10000, -9999, -256, -2, -1, 0, 1, 2, 5, 9998, 9999, 10000, 10001, 1 << 32, 1<<32 + 1, math.MaxInt64 - 1, math.MaxInt64}
	for _, tr := range traits() {
		list = append(list, tr.least-1, tr.least, tr.most, tr.most+1)
	}
	slices.Sort(list)
	return slices.Compact(list)
}

// dice are numbers in no order, always the same ones.
type dice uint64

func (d *dice) next() uint32 {
	*d = *d*6364136223846793005 + 1442695040888963407
	return uint32(*d >> 32)
}

func (d *dice) below(n int) int {
	return int(uint64(d.next()) * uint64(n) >> 32)
}

func anyOf[T any](d *dice, list []T) T {
	return list[d.below(len(list))]
}

// rule is a row of the chapter's table, with the numbers of its operations written out.
type rule struct {
	ops             []int
	kinded          bool
	areas           []int
	fixed           int // how many bytes, where they don't hang on the kind
	leastAt, mostAt int // where there is no area
	ats             []int
	leastN, mostN   int64
	literal         bool
}

func loads() []int {
	return []int{1, 2, 7, 8, 9, 10, 11, 12, 14, 15, 16, 17, 18, 19, 20, 21, 22, 23, 24}
}

// The chapter's tables are made once, since they are asked for millions of times.
var (
	table      = rules()
	kindTraits = traits()
	spellings  = opNames()
)

func rules() []rule {
	return []rule{
		{ops: loads(), kinded: true, areas: []int{1, 2, 3, 4}},
		{ops: loads(), kinded: true, literal: true},
		{ops: []int{3, 4, 5, 6}, kinded: true, areas: []int{2, 3, 4}},
		{ops: []int{25, 26, 27}, mostAt: 200},
		{ops: []int{13, 28, 29, 30, 33}},
		{ops: []int{31}, kinded: true},
		{ops: []int{32}, ats: []int{7, 8, 9, 10, 11, 12, 14, 15, 16, 17, 18, 19, 20, 21, 22, 23, 24}},
		{ops: []int{34, 35}, areas: []int{3, 4}, fixed: 5, leastN: 1, mostN: 9999},
		{ops: []int{36}, areas: []int{3, 4}, fixed: 1},
	}
}

// allows tells whether a row of the table lets an instruction be.
func (r rule) allows(i api.Instr) bool {
	if !slices.Contains(r.ops, i.Op) {
		return false
	}
	size, least, most := r.fixed, r.leastN, r.mostN
	if r.kinded {
		if i.Kind < 1 || i.Kind > 7 {
			return false
		}
		tr := kindTraits[i.Kind-1]
		size = tr.size
		if r.literal {
			least, most = tr.least, tr.most
		}
	} else if i.Kind != 0 {
		return false
	}
	if i.N < least || i.N > most {
		return false
	}
	if r.areas != nil {
		if !slices.Contains(r.areas, i.Area) {
			return false
		}
		// Each byte is looked for, one by one.
		for n := range size {
			if i.At < 0 || i.At > 63 || i.At+n > 63 {
				return false
			}
		}
		return true
	}
	if r.ats != nil {
		return i.Area == 0 && slices.Contains(r.ats, i.At)
	}
	return i.Area == 0 && i.At >= r.leastAt && i.At <= r.mostAt
}

func plainRight(i api.Instr) bool {
	for _, r := range table {
		if r.allows(i) {
			return true
		}
	}
	return false
}

func plainSpell(i api.Instr) string {
	if !plainRight(i) {
		return ""
	}
	place := ""
	if i.Area > 0 {
		place = fmt.Sprintf("%%%s%d", map[int]string{1: "I", 2: "Q", 3: "M", 4: "R"}[i.Area], i.At)
	}
	name := spellings[i.Op]
	switch {
	case i.Op == 33:
		return ")"
	case i.Op == 32:
		return spellings[i.At] + "("
	case i.Op == 34 || i.Op == 35:
		return fmt.Sprintf("%s %s,%d", name, place, i.N)
	case i.Op == 36:
		return name + " " + place
	case i.Op >= 25 && i.Op <= 27:
		return fmt.Sprintf("%s L%d", name, i.At)
	case i.Op == 31:
		return name + " " + kindTraits[i.Kind-1].name
	case i.Kind == 0:
		return name
	case i.Area == 0:
		return fmt.Sprintf("%s %s#%d", name, kindTraits[i.Kind-1].name, i.N)
	}
	return name + " " + place + ":" + kindTraits[i.Kind-1].name
}

// spelled asks Right and Spell of one instruction, and holds them against the table.
func spelled(t *testing.T, i api.Instr) bool {
	want := plainSpell(i)
	if is := Right(i); is != (want != "") {
		t.Fatalf("Right(%+v): %v", i, is)
	}
	if s := Spell(i); s != want {
		t.Fatalf("Spell(%+v): %q, not %q", i, s, want)
	}
	return want != ""
}

func TestTheExamples(t *testing.T) {
	code, e, line := Assemble("VAR go AT %I0:BOOL\nLD go\nST %Q0:BOOL")
	want := []api.Instr{{Op: api.LD, Kind: api.Bool, Area: api.Input}, {Op: api.ST, Kind: api.Bool, Area: api.Output}}
	if !slices.Equal(code, want) || e != api.OK || line != 0 {
		t.Error(code, e, line)
	}
}

func TestOp(t *testing.T) {
	all := opNames()
	for op := -1; op < 300; op++ {
		name, has := all[op]
		if !has {
			continue
		}
		if got, ok := Op(name); got != op || !ok {
			t.Errorf("Op(%q): %d, %v", name, got, ok)
		}
	}
	none := []string{"", " ", "OPEN", "CLOSE", "ADD(", "(", ")", "LD ", " LD", "VAR", "AT", "JM", "JMPN", "JMPNC", "JMPCNN", "RE", "RETN", "L", "SN", "RN", "NOTN", "CON", "TO", "CT", "CTD", "TOF", "TRI", "TRIGN", "LD\x00", "LD\n", "CAL", "BOOL", "1", "0", "LDLDN", "AND OR"}
	for _, name := range all {
		none = append(none, strings.ToLower(name), name+" ", " "+name, name+"\x00", name+"x", name+"(", name+"_", name[:1]+strings.ToLower(name[1:])+"x", "x"+name)
		if !slices.Contains(namesOf(all), name[:len(name)-1]) {
			none = append(none, name[:len(name)-1])
		}
		if !slices.Contains(namesOf(all), name[1:]) {
			none = append(none, name[1:])
		}
	}
	for _, name := range none {
		if got, ok := Op(name); got != 0 || ok {
			t.Errorf("Op(%q): %d, %v", name, got, ok)
		}
	}
}

func namesOf(all map[int]string) []string {
	var list []string
	for _, name := range all {
		list = append(list, name)
	}
	slices.Sort(list)
	return list
}

// All texts of up to three bytes over the letters of the operations' names are asked for.
func TestOpOfAllShortTexts(t *testing.T) {
	known := map[string]int{}
	for op, name := range opNames() {
		known[name] = op
	}
	letters := "ABCDEGIJLMNOPQRSTUVX(a \x00"
	var try func(text string)
	try = func(text string) {
		want, has := known[text]
		if op, ok := Op(text); op != want || ok != has {
			t.Fatalf("Op(%q): %d, %v", text, op, ok)
		}
		for n := 0; len(text) < 3 && n < len(letters); n++ {
			try(text + letters[n:n+1])
		}
	}
	try("")
}

func TestSpell(t *testing.T) {
	for _, c := range []struct {
		i    api.Instr
		want string
	}{
		{api.Instr{Op: api.LD, Kind: api.Bool, Area: api.Input}, "LD %I0:BOOL"},
		{api.Instr{Op: api.LD, Kind: api.Bool, Area: api.Input, At: 63}, "LD %I63:BOOL"},
		{api.Instr{Op: api.LDN, Kind: api.Sint, Area: api.Output, At: 9}, "LDN %Q9:SINT"},
		{api.Instr{Op: api.AND, Kind: api.Int, Area: api.Memory, At: 10}, "AND %M10:INT"},
		{api.Instr{Op: api.OR, Kind: api.Int, Area: api.Memory, At: 62}, "OR %M62:INT"},
		{api.Instr{Op: api.OR, Kind: api.Int, Area: api.Memory, At: 63}, ""},
		{api.Instr{Op: api.XOR, Kind: api.Dint, Area: api.Retain, At: 60}, "XOR %R60:DINT"},
		{api.Instr{Op: api.XOR, Kind: api.Dint, Area: api.Retain, At: 61}, ""},
		{api.Instr{Op: api.ANDN, Kind: api.Dword}, "ANDN DWORD#0"},
		{api.Instr{Op: api.ORN, Kind: api.Dword, N: 4294967295}, "ORN DWORD#4294967295"},
		{api.Instr{Op: api.ORN, Kind: api.Dword, N: 4294967296}, ""},
		{api.Instr{Op: api.XORN, Kind: api.Dint, N: -2147483648}, "XORN DINT#-2147483648"},
		{api.Instr{Op: api.XORN, Kind: api.Dint, N: -2147483649}, ""},
		{api.Instr{Op: api.ADD, Kind: api.Uint, N: 65535}, "ADD UINT#65535"},
		{api.Instr{Op: api.ADD, Kind: api.Uint, N: -1}, ""},
		{api.Instr{Op: api.LT, Kind: api.Bool, N: 1}, "LT BOOL#1"},
		{api.Instr{Op: api.LT, Kind: api.Bool, N: 2}, ""},
		{api.Instr{Op: api.LT, Kind: api.Bool, N: 1, At: 1}, ""},
		{api.Instr{Op: api.LT, Kind: api.Bool, N: 1, Area: 1}, ""},
		{api.Instr{Op: api.ST, Kind: api.Word, Area: api.Output, At: 62}, "ST %Q62:WORD"},
		{api.Instr{Op: api.ST, Kind: api.Word, Area: api.Input}, ""},
		{api.Instr{Op: api.ST, Kind: api.Word}, ""},
		{api.Instr{Op: api.STN, Kind: api.Bool, Area: api.Memory}, "STN %M0:BOOL"},
		{api.Instr{Op: api.S, Kind: api.Dint, Area: api.Retain}, "S %R0:DINT"},
		{api.Instr{Op: api.R, Kind: api.Bool, Area: api.Retain, At: 63}, "R %R63:BOOL"},
		{api.Instr{Op: api.R, Kind: api.Bool, Area: 5, At: 63}, ""},
		{api.Instr{Op: api.JMP}, "JMP L0"},
		{api.Instr{Op: api.JMPC, At: 17}, "JMPC L17"},
		{api.Instr{Op: api.JMPCN, At: 200}, "JMPCN L200"},
		{api.Instr{Op: api.JMPCN, At: 201}, ""},
		{api.Instr{Op: api.JMP, At: -1}, ""},
		{api.Instr{Op: api.JMP, N: 1}, ""},
		{api.Instr{Op: api.NOT}, "NOT"},
		{api.Instr{Op: api.RET}, "RET"},
		{api.Instr{Op: api.RETC}, "RETC"},
		{api.Instr{Op: api.RETCN}, "RETCN"},
		{api.Instr{Op: api.RETCN, At: 1}, ""},
		{api.Instr{Op: api.CLOSE}, ")"},
		{api.Instr{Op: api.CLOSE, Kind: 1}, ""},
		{api.Instr{Op: api.CONV, Kind: api.Dword}, "CONV DWORD"},
		{api.Instr{Op: api.CONV, Kind: 8}, ""},
		{api.Instr{Op: api.CONV}, ""},
		{api.Instr{Op: api.OPEN, At: api.AND}, "AND("},
		{api.Instr{Op: api.OPEN, At: api.XORN}, "XORN("},
		{api.Instr{Op: api.OPEN, At: api.NOT}, ""},
		{api.Instr{Op: api.OPEN, At: api.ADD}, "ADD("},
		{api.Instr{Op: api.OPEN, At: api.LT}, "LT("},
		{api.Instr{Op: api.OPEN, At: api.JMP}, ""},
		{api.Instr{Op: api.OPEN, At: api.R}, ""},
		{api.Instr{Op: api.OPEN, At: api.LD}, ""},
		{api.Instr{Op: api.OPEN}, ""},
		{api.Instr{Op: api.TON, Area: api.Memory, At: 59, N: 1}, "TON %M59,1"},
		{api.Instr{Op: api.TON, Area: api.Memory, At: 60, N: 1}, ""},
		{api.Instr{Op: api.CTU, Area: api.Retain, N: 9999}, "CTU %R0,9999"},
		{api.Instr{Op: api.CTU, Area: api.Retain, N: 10000}, ""},
		{api.Instr{Op: api.CTU, Area: api.Retain}, ""},
		{api.Instr{Op: api.CTU, Area: api.Output, N: 1}, ""},
		{api.Instr{Op: api.CTU, Area: api.Memory, Kind: 1, N: 1}, ""},
		{api.Instr{Op: api.TRIG, Area: api.Memory, At: 63}, "TRIG %M63"},
		{api.Instr{Op: api.TRIG, Area: api.Memory, At: 64}, ""},
		{api.Instr{Op: api.TRIG, Area: api.Retain}, "TRIG %R0"},
		{api.Instr{Op: api.TRIG, Area: api.Retain, N: 1}, ""},
		{api.Instr{}, ""},
		{api.Instr{Op: 37}, ""},
		{api.Instr{Op: -1}, ""},
	} {
		if s := Spell(c.i); s != c.want || Right(c.i) != (c.want != "") {
			t.Errorf("%+v: %q, %v", c.i, s, Right(c.i))
		}
		spelled(t, c.i)
	}
}

// Each operation is asked for with each of the chosen numbers in each field.
func TestRightAndSpellOfAllChosen(t *testing.T) {
	numbers := someNumbers()
	for _, op := range allOps() {
		right := 0
		for _, kind := range someKinds() {
			for _, area := range someAreas() {
				// Where no row has that operation, kind and area, few numbers are enough.
				few := numbers
				if area < 0 || area > 4 || kind < 0 || kind > 7 || !slices.Contains(realOps(), op) {
					few = []int64{-1, 0, 1, 9999}
				}
				for _, at := range somePlaces() {
					for _, n := range few {
						i := api.Instr{Op: op, Kind: kind, Area: area, At: at, N: n}
						if want := plainRight(i); Right(i) != want {
							t.Fatalf("Right(%+v): %v", i, !want)
						} else if want {
							right++
							spelled(t, i)
						} else if s := Spell(i); s != "" {
							t.Fatalf("Spell(%+v): %q", i, s)
						}
					}
				}
			}
		}
		if (right > 0) != slices.Contains(realOps(), op) {
			t.Errorf("operation %d: %d may be", op, right)
		}
	}
}

func realOps() []int {
	var list []int
	for op := 1; op <= 36; op++ {
		list = append(list, op)
	}
	return list
}

// Every place of every area is asked for, with each kind.
func TestRightAtAllPlaces(t *testing.T) {
	for _, op := range realOps() {
		for kind := 0; kind <= 8; kind++ {
			for area := 0; area <= 5; area++ {
				for at := -2; at <= 203; at++ {
					for _, n := range []int64{0, 1} {
						spelled(t, api.Instr{Op: op, Kind: kind, Area: area, At: at, N: n})
					}
				}
			}
		}
	}
}

// All numbers that TON and CTU may have, and some beyond, are asked for.
func TestRightOfAllCounts(t *testing.T) {
	for n := int64(-300); n <= 10300; n++ {
		spelled(t, api.Instr{Op: api.TON, Area: api.Memory, At: 59, N: n})
		spelled(t, api.Instr{Op: api.CTU, Area: api.Retain, N: n})
	}
}

// A text is read once more, by patterns of whole lines.
type pattern struct {
	empty, declares, marks, places, reads, writes, jumps, converts, counts, senses, opens, alone *regexp.Regexp
}

const (
	aName   = `[A-Za-z][A-Za-z0-9_]{0,15}`
	aKind   = `BOOL|SINT|INT|DINT|UINT|WORD|DWORD`
	aNumber = `0|[1-9][0-9]?`
	joining = `AND|OR|XOR|ANDN|ORN|XORN|ADD|SUB|MUL|DIV|MOD|GT|GE|EQ|NE|LE|LT`
	aPlace  = `%([IQMR])(` + aNumber + `):(` + aKind + `)`
)

// wholly is a pattern of a whole line, with blanks about it.
func wholly(inner string) *regexp.Regexp {
	return regexp.MustCompile(`^ *` + inner + ` *$`)
}

func patterns() pattern {
	operand := `(?:` + aPlace + `|(` + aKind + `)#(-?[0-9]{1,10})|(` + aName + `))`
	return pattern{
		empty:    wholly(``),
		declares: wholly(`VAR +(` + aName + `) +AT +` + aPlace),
		marks:    regexp.MustCompile(`^ *(` + aName + `):( .*)?$`),
		reads:    wholly(`(LD|LDN|` + joining + `) +` + operand),
		writes:   wholly(`(ST|STN|S|R) +(?:` + aPlace + `|(` + aName + `))`),
		jumps:    wholly(`(JMP|JMPC|JMPCN) +(` + aName + `)`),
		converts: wholly(`CONV +(` + aKind + `)`),
		counts:   wholly(`(TON|CTU) +%([MR])(` + aNumber + `),([0-9]{1,4})`),
		senses:   wholly(`TRIG +%([MR])(` + aNumber + `)`),
		opens:    wholly(`(` + joining + `)\(`),
		alone:    wholly(`(NOT|RET|RETC|RETCN|\))`),
	}
}

// twin reads a text line by line, by the patterns.
type twin struct {
	pattern
	places map[string]api.Instr
	labels map[string]int
	code   []api.Instr
	leaps  map[int]string
	lines  map[int]int
}

func opNamed(name string) int {
	for op, known := range opNames() {
		if known == name {
			return op
		}
	}
	return 0
}

func numberOf(text string) int {
	n, _ := strconv.Atoi(text)
	return n
}

// place tells what the three pieces of a place ask for, and whether there is room for it.
func place(letter, number, kind string) (api.Instr, bool) {
	tr, _ := traitNamed(kind)
	at := numberOf(number)
	return api.Instr{Kind: tr.kind, Area: 1 + strings.Index("IQMR", letter), At: at}, at+tr.size <= 64
}

// operand tells what the pieces of an operand ask for.
func (w *twin) operand(op string, letter, number, kind, name string) (api.Instr, api.Errno) {
	i, ok := api.Instr{}, true
	if name != "" {
		i, ok = w.places[name]
		if !ok {
			return api.Instr{}, api.ErrName
		}
	} else if i, ok = place(letter, number, kind); !ok {
		return api.Instr{}, api.ErrSyntax
	}
	i.Op = opNamed(op)
	return i, api.OK
}

// instruction tells the instruction of a line, and to which label it jumps.
func (w *twin) instruction(line string) (api.Instr, string, api.Errno) {
	if m := w.alone.FindStringSubmatch(line); m != nil {
		if m[1] == ")" {
			return api.Instr{Op: 33}, "", api.OK
		}
		return api.Instr{Op: opNamed(m[1])}, "", api.OK
	}
	if m := w.opens.FindStringSubmatch(line); m != nil {
		return api.Instr{Op: 32, At: opNamed(m[1])}, "", api.OK
	}
	if m := w.jumps.FindStringSubmatch(line); m != nil {
		return api.Instr{Op: opNamed(m[1])}, m[2], api.OK
	}
	if m := w.converts.FindStringSubmatch(line); m != nil {
		tr, _ := traitNamed(m[1])
		return api.Instr{Op: 31, Kind: tr.kind}, "", api.OK
	}
	if m := w.counts.FindStringSubmatch(line); m != nil {
		at, n := numberOf(m[3]), numberOf(m[4])
		if at > 59 || n == 0 {
			return api.Instr{}, "", api.ErrSyntax
		}
		return api.Instr{Op: opNamed(m[1]), Area: 1 + strings.Index("IQMR", m[2]), At: at, N: int64(n)}, "", api.OK
	}
	if m := w.senses.FindStringSubmatch(line); m != nil {
		at := numberOf(m[2])
		if at > 63 {
			return api.Instr{}, "", api.ErrSyntax
		}
		return api.Instr{Op: 36, Area: 1 + strings.Index("IQMR", m[1]), At: at}, "", api.OK
	}
	if m := w.reads.FindStringSubmatch(line); m != nil {
		if m[6] != "" {
			tr, _ := traitNamed(m[5])
			n := int64(numberOf(m[6]))
			if n < tr.least || n > tr.most {
				return api.Instr{}, "", api.ErrSyntax
			}
			return api.Instr{Op: opNamed(m[1]), Kind: tr.kind, N: n}, "", api.OK
		}
		i, e := w.operand(m[1], m[2], m[3], m[4], m[7])
		return i, "", e
	}
	if m := w.writes.FindStringSubmatch(line); m != nil {
		i, e := w.operand(m[1], m[2], m[3], m[4], m[5])
		if e == api.OK && i.Area == 1 {
			return api.Instr{}, "", api.ErrSyntax
		}
		return i, "", e
	}
	return api.Instr{}, "", api.ErrSyntax
}

// line reads one line.
func (w *twin) line(line string, number int) api.Errno {
	if n := strings.IndexByte(line, ';'); n >= 0 {
		line = line[:n]
	}
	if w.empty.MatchString(line) {
		return api.OK
	}
	if m := w.declares.FindStringSubmatch(line); m != nil {
		i, ok := place(m[2], m[3], m[4])
		if !ok {
			return api.ErrSyntax
		}
		if _, known := w.places[m[1]]; known {
			return api.ErrName
		}
		w.places[m[1]] = i
		return api.OK
	}
	if m := w.marks.FindStringSubmatch(line); m != nil {
		if _, known := w.labels[m[1]]; known {
			return api.ErrName
		}
		w.labels[m[1]] = len(w.code)
		line = m[2]
		if w.empty.MatchString(line) {
			return api.OK
		}
	}
	i, label, e := w.instruction(line)
	if e != api.OK {
		return e
	}
	if len(w.code) >= 200 {
		return api.ErrLong
	}
	w.lines[len(w.code)] = number
	if label != "" {
		w.leaps[len(w.code)] = label
	}
	w.code = append(w.code, i)
	return api.OK
}

// reader makes a twin for each text, with patterns that are made once.
type reader struct {
	pattern
}

func (r reader) assemble(text string) ([]api.Instr, api.Errno, int) {
	if len(text) >= 4001 {
		return nil, api.ErrLong, 0
	}
	w := &twin{pattern: r.pattern, places: map[string]api.Instr{}, labels: map[string]int{}, leaps: map[int]string{}, lines: map[int]int{}}
	number := 0
	for rest, more := text, true; more; {
		var line string
		line, rest, more = strings.Cut(rest, "\n")
		number++
		if e := w.line(line, number); e != api.OK {
			return nil, e, number
		}
	}
	for n := range w.code {
		label, leaps := w.leaps[n]
		if !leaps {
			continue
		}
		at, known := w.labels[label]
		if !known {
			return nil, api.ErrName, w.lines[n]
		}
		w.code[n].At = at
	}
	return w.code, api.OK, 0
}

// assembled holds what Assemble answers against what the patterns say.
func assembled(t *testing.T, r reader, text string) api.Errno {
	code, e, line := Assemble(text)
	wantCode, wantE, wantLine := r.assemble(text)
	if !slices.Equal(code, wantCode) || e != wantE || line != wantLine {
		t.Fatalf("Assemble(%q):\n%v, %d, %d, not\n%v, %d, %d", text, code, e, line, wantCode, wantE, wantLine)
	}
	if e != api.OK && code != nil {
		t.Fatalf("Assemble(%q): %d, and %v", text, e, code)
	}
	return e
}

// told is a text, and which error in which line is asked for.
type told struct {
	text string
	e    api.Errno
	line int
}

func tells(t *testing.T, list []told) {
	r := reader{patterns()}
	for _, c := range list {
		code, e, line := Assemble(c.text)
		if e != c.e || line != c.line || e != api.OK && len(code) != 0 {
			t.Errorf("Assemble(%.80q): %d, %d, not %d, %d", c.text, e, line, c.e, c.line)
		}
		assembled(t, r, c.text)
	}
}

// readsAs asks for the one instruction of each of a table of texts.
func readsAs(t *testing.T, ahead string, list map[string]api.Instr) {
	r := reader{patterns()}
	for text, want := range list {
		code, e, line := Assemble(ahead + text)
		if e != api.OK || line != 0 || !slices.Equal(code, []api.Instr{want}) {
			t.Errorf("Assemble(%q): %v, %d, %d", ahead+text, code, e, line)
		}
		assembled(t, r, ahead+text)
	}
}

// refuses asks for ErrSyntax, in the last line of each of these texts.
func refuses(t *testing.T, list []string) {
	r := reader{patterns()}
	for _, text := range list {
		last := strings.Count(text, "\n") + 1
		code, e, line := Assemble(text)
		if e != api.ErrSyntax || line != last || len(code) != 0 {
			t.Errorf("Assemble(%q): %v, %d, %d", text, code, e, line)
		}
		assembled(t, r, text)
		// Good lines ahead and others behind change the line alone.
		text = "RET\n\n" + text + "\nnothing of this\nJMP none"
		if code, e, line := Assemble(text); e != api.ErrSyntax || line != last+2 || len(code) != 0 {
			t.Errorf("Assemble(%q): %v, %d, %d", text, code, e, line)
		}
		assembled(t, r, text)
	}
}

func TestEachKindOfLine(t *testing.T) {
	readsAs(t, "", map[string]api.Instr{
		"LD %I0:BOOL":             {Op: api.LD, Kind: api.Bool, Area: api.Input},
		"  LD   %I63:BOOL  ":      {Op: api.LD, Kind: api.Bool, Area: api.Input, At: 63},
		"LDN %Q62:INT":            {Op: api.LDN, Kind: api.Int, Area: api.Output, At: 62},
		"ST %M60:DINT":            {Op: api.ST, Kind: api.Dint, Area: api.Memory, At: 60},
		"STN %R9:SINT":            {Op: api.STN, Kind: api.Sint, Area: api.Retain, At: 9},
		"S %Q10:UINT":             {Op: api.S, Kind: api.Uint, Area: api.Output, At: 10},
		"R %M1:WORD":              {Op: api.R, Kind: api.Word, Area: api.Memory, At: 1},
		"AND %R60:DWORD":          {Op: api.AND, Kind: api.Dword, Area: api.Retain, At: 60},
		"NOT":                     {Op: api.NOT},
		" RET ":                   {Op: api.RET},
		"RETC;":                   {Op: api.RETC},
		"RETCN ; RET":             {Op: api.RETCN},
		")":                       {Op: api.CLOSE},
		"ADD(":                    {Op: api.OPEN, At: api.ADD},
		" XORN( ; and so on":      {Op: api.OPEN, At: api.XORN},
		"CONV DINT":               {Op: api.CONV, Kind: api.Dint},
		"TON %M59,1":              {Op: api.TON, Area: api.Memory, At: 59, N: 1},
		"TON %M0,0001":            {Op: api.TON, Area: api.Memory, N: 1},
		"CTU %R8,9999":            {Op: api.CTU, Area: api.Retain, At: 8, N: 9999},
		"CTU %R8,0070":            {Op: api.CTU, Area: api.Retain, At: 8, N: 70},
		"TRIG %R63":               {Op: api.TRIG, Area: api.Retain, At: 63},
		"TRIG  %M0":               {Op: api.TRIG, Area: api.Memory},
		"x: JMP x":                {Op: api.JMP},
		"JMPC x\nx:":              {Op: api.JMPC, At: 1},
		"\n\n;\nJMPCN x\n\nx: \n": {Op: api.JMPCN, At: 1},
		"VAR:\nJMP VAR":           {Op: api.JMP},
		"LD: LD INT#5":            {Op: api.LD, Kind: api.Int, N: 5},
		"a:\nb:\nc: NOT":          {Op: api.NOT},
		"MUL SINT#-128":           {Op: api.MUL, Kind: api.Sint, N: -128},
		"LD INT#5;6":              {Op: api.LD, Kind: api.Int, N: 5},
		";RET\nRET":               {Op: api.RET},
		"RET\n;\x00\xff\t\r":      {Op: api.RET},
	})
	refuses(t, []string{
		"LD", "ST", "AND", "LT", "JMP", "JMPC", "JMPCN", "CONV", "TON", "CTU", "TRIG", "OPEN", "CLOSE", "VAR", "AT", "LDX", "ld %I0:BOOL", "Ld %I0:BOOL", "LD(", "LDN(", "ST(", "NOT(", "JMP(", "RET(", "CONV(", "OPEN(", "((", "ADD((", "ADD()", "ADD )", "ADD (", "(", "() ", "))", ") )", ")RET", "x(", "add(",
		"LD %I0:BOOL %I1:BOOL", "LD %I0:BOOL x", "LD %I0:BOOL,", "LD x y", "RET x", "RET RET", "NOT %I0:BOOL", "NOT NOT", ") x", "ADD( x", "ADD( %I0:INT", "ADD( ADD(", "JMP x y", "JMP x:", "JMP :", "JMP 1", "JMP _x", "JMP L1(", "JMP %M0", "JMP INT#1", "CONV x", "CONV int", "CONV INT INT", "CONV %M0:INT", "CONV INT#1", "CONV 3", "CONV %INT", "CONV INT,",
		"TON", "TON %M0", "TON %M0,", "TON ,1", "TON %M0,1,", "TON %M0,1,1", "TON %M0, 1", "TON %M0 ,1", "TON %M0 , 1", "TON %M0 1", "TON %M0:BOOL", "TON %M0:BOOL,1", "TON %M0,0", "TON %M0,0000", "TON %M0,10000", "TON %M0,00001", "TON %M0,-1", "TON %M0,+1", "TON %M0,x", "TON %M0,1x", "TON %M,1", "TON %M60,1", "TON %M99,1", "TON %M00,1", "TON %M01,1", "TON %M100,1", "TON %I0,1", "TON %Q0,1", "TON %m0,1", "TON M0,1", "TON 0,1", "TON %0,1", "TON x,1", "TON x", "CTU %M60,1", "CTU %I0,1", "CTU %R0,0", "CTU %R0,10000", "CTU INT#1", "TON %M-1,1", "TON %M0,1 1", "TON %M0:INT", "TON %M0.1", "TON %M0;,1",
		"TRIG %M64", "TRIG %R64", "TRIG %M99", "TRIG %M00", "TRIG %M07", "TRIG %M100", "TRIG %M", "TRIG %", "TRIG", "TRIG %I0", "TRIG %Q0", "TRIG M0", "TRIG %M0:BOOL", "TRIG %M0,1", "TRIG %M0 %M1", "TRIG x", "TRIG %Mx", "TRIG %M-1", "TRIG %M1x", "TRIG BOOL#1", "TRIG %N0",
		"ST %I0:BOOL", "STN %I0:BOOL", "S %I0:BOOL", "R %I0:BOOL", "ST INT#5", "STN BOOL#0", "S BOOL#1", "R BOOL#1",
		":", " : ", ": RET", "x :", "x : RET", "x:RET", "x:: RET", "x:y: RET", "x:y:", "a: b:", "a: b: RET", "1: RET", "_x: RET", "x y: RET", "RET x:", "RET: RET x", "a: VAR b AT %I0:BOOL", "%I0: RET", "x: LD", "x: nothing", "x-y: RET", "x.y:", "x\t:", "x;: RET",
		"word", "%I0:BOOL", "INT#5", "#", "%", ",", "\"", "\x00", "\t", "\r", "\v", "\f", "\xa0", "\u00a0", "\u2003", "RET\r", "RET\t", "\tRET", "LD\t%I0:BOOL", "LD %I0:BOOL\r", "LD\x00%I0:BOOL", "x:\tRET", "x:\r", "\xff", "R\xc9T", "RET\x00", "VAR\tx AT %I0:BOOL",
	})
}

func TestVar(t *testing.T) {
	whole := api.Instr{Op: api.LD, Kind: api.Int, Area: api.Memory, At: 7}
	readsAs(t, "", map[string]api.Instr{
		"VAR x AT %M7:INT\nLD x":                               whole,
		"  VAR   x   AT   %M7:INT ; x:\n  LD   x;":             whole,
		"VAR VAR AT %M7:INT\nLD VAR":                           whole,
		"VAR AT AT %M7:INT\nLD AT":                             whole,
		"VAR LD AT %M7:INT\nLD LD":                             whole,
		"VAR INT AT %M7:INT\nLD INT":                           whole,
		"VAR a AT %M7:INT\nVAR b AT %M7:INT\nLD b":             whole,
		"VAR a AT %I7:INT\nVAR A AT %M7:INT\nLD A":             whole,
		"VAR a AT %I7:INT\nVAR aa AT %M7:INT\nLD aa":           whole,
		"VAR abcdefghijklmnop AT %M7:INT\nLD abcdefghijklmnop": whole,
		"VAR Z9_ AT %M7:INT\nLD Z9_":                           whole,
		"VAR a_ AT %I7:INT\nVAR a__ AT %M7:INT\nLD a__":        whole,
		"x:\nVAR x AT %M7:INT\nx1: LD x":                       whole,
		"VAR x AT %M7:INT\nx: LD x":                            whole,
		"VAR a AT %Q63:BOOL\nS a":                              {Op: api.S, Kind: api.Bool, Area: api.Output, At: 63},
		"VAR a AT %R62:WORD\nXOR a":                            {Op: api.XOR, Kind: api.Word, Area: api.Retain, At: 62},
		"VAR a AT %R60:DWORD\nST a":                            {Op: api.ST, Kind: api.Dword, Area: api.Retain, At: 60},
		"VAR a AT %I0:SINT\nLT a":                              {Op: api.LT, Kind: api.Sint, Area: api.Input},
		"VAR a AT %I0:UINT\nGE a":                              {Op: api.GE, Kind: api.Uint, Area: api.Input},
		"RET:\nVAR RET AT %M0:DINT\nSUB RET":                   {Op: api.SUB, Kind: api.Dint, Area: api.Memory},
		"VAR a AT %M0:BOOL\nVAR b AT %M1:BOOL\nST a;b":         {Op: api.ST, Kind: api.Bool, Area: api.Memory},
		"VAR a AT %M0:BOOL\na: JMP a":                          {Op: api.JMP},
		"VAR abcdefghijklmno AT %I0:BOOL\nSTN %M63:BOOL":       {Op: api.STN, Kind: api.Bool, Area: api.Memory, At: 63},
		"VAR a AT %I0:BOOL\nVAR b AT %I0:BOOL\nJMPC a\na:\nb:": {Op: api.JMPC, At: 1},
	})
	refuses(t, []string{
		"VAR x AT %M7", "VAR x AT %M7:", "VAR x AT M7:INT", "VAR x AT %7:INT", "VAR x AT %M:INT", "VAR x AT %:INT", "VAR x AT :INT", "VAR x AT %M7INT", "VAR x AT %M7:int", "VAR x AT %M7:INTS", "VAR x AT %M7:IN", "VAR x AT %m7:INT", "VAR x AT %N7:INT", "VAR x AT %MM7:INT", "VAR x AT %%M7:INT", "VAR x AT %M7:INT:", "VAR x AT %M7::INT", "VAR x AT %M7:%M7:INT", "VAR x AT %M7: INT", "VAR x AT %M7 :INT", "VAR x AT % M7:INT",
		"VAR x AT %M07:INT", "VAR x AT %M00:INT", "VAR x AT %M007:INT", "VAR x AT %M100:INT", "VAR x AT %M-1:INT", "VAR x AT %M+1:INT", "VAR x AT %M7.0:INT", "VAR x AT %M7x:INT", "VAR x AT %Mx7:INT", "VAR x AT %M7:INT#5", "VAR x AT %M7,1:INT", "VAR x AT %M7:3", "VAR x AT %M7:TON", "VAR x AT %M7:", "VAR x AT %M7\x00:INT",
		"VAR x AT %I64:BOOL", "VAR x AT %Q64:SINT", "VAR x AT %M63:INT", "VAR x AT %R63:UINT", "VAR x AT %I63:WORD", "VAR x AT %I61:DINT", "VAR x AT %R61:DWORD", "VAR x AT %R62:DWORD", "VAR x AT %R63:DWORD", "VAR x AT %I99:BOOL", "VAR x AT %I65:BOOL",
		"VAR x AT INT#5", "VAR x AT x", "VAR x AT y", "VAR x AT", "VAR x", "VAR", "VAR AT %M7:INT", "VAR x %M7:INT", "VAR x y %M7:INT", "VAR x At %M7:INT", "VAR x at %M7:INT", "VAR x AT: %M7:INT", "VAR x: AT %M7:INT", "VAR x AT %M7:INT y", "VAR x AT %M7:INT AT", "VAR x AT AT %M7:INT", "VAR x y AT %M7:INT", "VAR VAR x AT %M7:INT", "var x AT %M7:INT", "Var x AT %M7:INT", "VARS x AT %M7:INT", "VARx AT %M7:INT", "VAR x;AT %M7:INT", "VAR x AT;%M7:INT", "VAR x AT %M7;:INT", "x: VAR y AT %M7:INT", "VAR: x AT %M7:INT", "VAR : x AT %M7:INT",
		"VAR 1 AT %M7:INT", "VAR 1x AT %M7:INT", "VAR _ AT %M7:INT", "VAR _x AT %M7:INT", "VAR x-y AT %M7:INT", "VAR x.y AT %M7:INT", "VAR x# AT %M7:INT", "VAR \xe4 AT %M7:INT", "VAR \u00e4 AT %M7:INT", "VAR x\x00 AT %M7:INT", "VAR abcdefghijklmnopq AT %M7:INT", "VAR % AT %M7:INT", "VAR x\tAT %M7:INT", "VAR x@ AT %M7:INT", "VAR x[ AT %M7:INT", "VAR x` AT %M7:INT", "VAR x{ AT %M7:INT", "VAR @ AT %M7:INT", "VAR [ AT %M7:INT", "VAR ` AT %M7:INT", "VAR { AT %M7:INT", "VAR x/ AT %M7:INT", "VAR x: AT %M7:INT",
		// Where a name is there already, what may not be is told ahead of that.
		"VAR x AT %M7:INT\nVAR x AT %M63:INT", "VAR x AT %M7:INT\nVAR x AT", "VAR x AT %M7:INT\nVAR x %M7:INT",
		// A name stands for a place that the operation doesn't ask for.
		"VAR x AT %I7:INT\nST x", "VAR x AT %I0:BOOL\nS x", "VAR x AT %M0:BOOL\nTRIG x", "VAR x AT %M0:BOOL\nTON x,5", "VAR x AT %M0:BOOL\nTON x", "VAR x AT %M0:BOOL\nNOT x", "VAR x AT %M0:BOOL\nCONV x", "VAR x AT %M0:BOOL\nRET x", "VAR x AT %M0:BOOL\n) x", "VAR x AT %M0:BOOL\nADD( x", "VAR x AT %M0:BOOL\nx", "VAR x AT %M0:BOOL\nLD x:BOOL", "VAR x AT %M0:BOOL\nLD %x", "VAR x AT %M0:BOOL\nLD -x", "VAR x AT %M0:BOOL\nLD x x", "VAR x AT %M0:BOOL\nLD BOOL#x",
	})
}

func TestNames(t *testing.T) {
	longest := strings.Repeat("x", 16)
	tells(t, []told{
		{"LD x", api.ErrName, 1},
		{"ST x", api.ErrName, 1},
		{"S INT", api.ErrName, 1},
		{"LT AT", api.ErrName, 1},
		{"AND VAR", api.ErrName, 1},
		{"LD I0", api.ErrName, 1},
		{"LD " + longest, api.ErrName, 1},
		{"LD " + longest + "x", api.ErrSyntax, 1},
		{"JMP " + longest, api.ErrName, 1},
		{"JMP " + longest + "x", api.ErrSyntax, 1},
		{longest + ": JMP " + longest, api.OK, 0},
		{longest + "x: RET", api.ErrSyntax, 1},
		{"VAR " + longest + " AT %I0:BOOL\nLD " + longest, api.OK, 0},
		{"VAR " + longest + "x AT %I0:BOOL", api.ErrSyntax, 1},
		{"LD x\nVAR x AT %I0:BOOL", api.ErrName, 1},
		{"RET\nLD x\nVAR x AT %I0:BOOL\nLD x", api.ErrName, 2},
		{"VAR x AT %I0:BOOL\nLD X", api.ErrName, 2},
		{"VAR x AT %I0:BOOL\nLD xx", api.ErrName, 2},
		{"VAR xx AT %I0:BOOL\nLD x", api.ErrName, 2},
		{"VAR x AT %I0:BOOL\nVAR x AT %I0:BOOL", api.ErrName, 2},
		{"VAR x AT %I0:BOOL\nVAR y AT %I1:BOOL\n\nVAR x AT %Q0:INT", api.ErrName, 4},
		{"VAR x AT %I0:BOOL\nVAR x AT %I64:BOOL", api.ErrSyntax, 2},
		{"; VAR x AT %I0:BOOL\nLD x", api.ErrName, 2},
		// Names of places and of labels are apart.
		{"x: LD x", api.ErrName, 1},
		{"x:\nST x", api.ErrName, 2},
		{"VAR x AT %I0:BOOL\nJMP x", api.ErrName, 2},
		{"VAR x AT %I0:BOOL\nx: JMP x", api.OK, 0},
		{"x: RET\nVAR x AT %I0:BOOL\nLD x\nJMP x", api.OK, 0},
		{"x:\nx:", api.ErrName, 2},
		{"x: RET\n\nx: RET", api.ErrName, 3},
		{"x: RET\nX: RET\nxX:", api.OK, 0},
		{"x: RET\n x : RET", api.ErrSyntax, 2},
		// A label that is there already is told ahead of what stands behind it.
		{"x: RET\nx: nothing", api.ErrName, 2},
		{"x: RET\nx: LD", api.ErrName, 2},
		{"x: RET\nx: LD y", api.ErrName, 2},
		{"x: RET\nx: x: RET", api.ErrName, 2},
		{"x: RET\nx: VAR y AT %I0:BOOL", api.ErrName, 2},
		{"x: RET\ny: x: RET", api.ErrSyntax, 2},
		{"y: nothing", api.ErrSyntax, 1},
		{"y: LD z", api.ErrName, 1},
		{"y: y: RET", api.ErrSyntax, 1},
		// The label of a line that has an error isn't there any more for nobody: the first error is the answer.
		{"JMP x\nx: LD\ny:", api.ErrSyntax, 2},
		{"JMP x\nLD z", api.ErrName, 2},
		{"JMP x\nLD", api.ErrSyntax, 2},
	})
}

func TestPlaces(t *testing.T) {
	list := map[string]api.Instr{}
	var none []string
	for area, letter := range []string{"I", "Q", "M", "R"} {
		for _, tr := range traits() {
			for at := range 100 {
				text := "LD %" + letter + strconv.Itoa(at) + ":" + tr.name
				if at+tr.size > 64 {
					none = append(none, text)
					continue
				}
				list[text] = api.Instr{Op: api.LD, Kind: tr.kind, Area: area + 1, At: at}
			}
			for _, number := range []string{"", "00", "01", "09", "000", "010", "001", "100", "064", "0 ", " 0", "-0", "+0", "0x", "x", "1e1", "1_0", "\xb2", "\u0661"} {
				none = append(none, "LD %"+letter+number+":"+tr.name)
			}
			for _, behind := range []string{"S", "#", "#0", ":", ",", ":" + tr.name, "0", "x", "\x00", " x"} {
				none = append(none, "LD %"+letter+"0:"+tr.name+behind)
			}
			for _, ahead := range []string{"x", "%", ":", "\x00", "#"} {
				none = append(none, "LD "+ahead+"%"+letter+"0:"+tr.name)
			}
		}
	}
	for c := range 256 {
		letter := string([]byte{byte(c)})
		if !strings.Contains("IQMR", letter) && letter != " " && letter != ";" && letter != "\n" {
			none = append(none, "LD %"+letter+"0:BOOL", "TRIG %"+letter+"0", "TON %"+letter+"0,1")
		}
		if letter != ":" && letter != " " && letter != ";" && letter != "\n" {
			none = append(none, "LD %I0"+letter+"BOOL", "LD %I10"+letter+"BOOL")
		}
	}
	for _, name := range []string{"", "bool", "Bool", "BOO", "OOL", "REAL", "BYTE", "LINT", "USINT", "UDINT", "STRING", "1", "SIN", "DWOR", "WORDS", "DDWORD", "TIME", "INT_", "INT\x00"} {
		none = append(none, "LD %I0:"+name, "CONV "+name, "LD "+name+"#1", "VAR x AT %I0:"+name)
	}
	readsAs(t, "", list)
	refuses(t, none)
}

func TestLiterals(t *testing.T) {
	list := map[string]api.Instr{}
	var none []string
	for _, tr := range traits() {
		for _, n := range someNumbers() {
			text := "LD " + tr.name + "#" + strconv.FormatInt(n, 10)
			if n < tr.least || n > tr.most {
				none = append(none, text)
				continue
			}
			list[text] = api.Instr{Op: api.LD, Kind: tr.kind, N: n}
		}
		for text, n := range map[string]int64{"00": 0, "01": 1, "-0": 0, "-00": 0, "0000000000": 0, "-0000000000": 0, "0000000001": 1, "000": 0} {
			list["NE "+tr.name+"#"+text] = api.Instr{Op: api.NE, Kind: tr.kind, N: n}
		}
		for _, text := range []string{"", "-", "--1", "+1", "-+1", "+0", "--0", "1-", "-1-", "0-", "00000000000", "00000000001", "-00000000000", "12345678901", "-12345678901", "99999999999999999999", "18446744073709551616", "9999999999", "-9999999999", "4294967296", "1x", "x", "0x1", "1.0", "1,0", "1_0", "#1", "1#", "1:", "(1)", "%1", "1\x00", "\xb2", "\u0661", "TRUE", "FALSE", "1 1", " 1", "- 1"} {
			none = append(none, "LD "+tr.name+"#"+text, "ADD "+tr.name+"#"+text)
		}
		lower := strings.ToLower(tr.name)
		none = append(none, "LD "+lower+"#1", "LD "+tr.name+"S#1", "LD x"+tr.name+"#1", "LD "+tr.name[1:]+"x#1", "LD "+tr.name+" #1", "LD "+tr.name+"-1", "LD "+tr.name+":1", "LD %"+tr.name+"#1", "LD #"+tr.name+"#1", "LD -"+tr.name+"#1", "LD "+tr.name+"##1")
		for _, op := range []string{"ST", "STN", "S", "R", "JMP", "JMPC", "CONV", "TON", "CTU", "TRIG", "NOT", "RET", ")", "ADD(", "OPEN", "CLOSE"} {
			none = append(none, op+" "+tr.name+"#1")
		}
	}
	none = append(none, "LD #1", "LD #", "LD 1", "LD -1", "LD 1#1", "LD REAL#1", "LD TON#1", "LD AND#1", "INT#1", "LD INT#1 INT#2", "LD BOOL#2", "LD BOOL#-1", "LD UINT#-1", "LD WORD#65536", "LD DWORD#-1", "LD SINT#128", "LD SINT#-129", "LD INT#32768", "LD INT#-32769", "LD DINT#2147483648", "LD DINT#-2147483649")
	readsAs(t, "", list)
	refuses(t, none)
}

func TestCounts(t *testing.T) {
	list := map[string]api.Instr{}
	var none []string
	for op, name := range map[int]string{api.TON: "TON", api.CTU: "CTU"} {
		for n := range 12000 {
			text := name + " %M3," + strconv.Itoa(n)
			if n%7 != 0 && n > 20 && n < 9990 {
				continue
			}
			if n < 1 || n > 9999 {
				none = append(none, text)
				continue
			}
			list[text] = api.Instr{Op: op, Area: api.Memory, At: 3, N: int64(n)}
		}
		for at := range 100 {
			text := name + " %R" + strconv.Itoa(at) + ",5"
			if at > 59 {
				none = append(none, text)
				continue
			}
			list[text] = api.Instr{Op: op, Area: api.Retain, At: at, N: 5}
		}
		for n, number := range []string{"0000", "0001", "0002", "003", "04"} {
			if n > 0 {
				list[name+" %M0,"+number] = api.Instr{Op: op, Area: api.Memory, N: int64(n)}
			} else {
				none = append(none, name+" %M0,"+number, name+" %M0,000", name+" %M0,00", name+" %M0,0")
			}
		}
	}
	for at := range 100 {
		text := "TRIG %M" + strconv.Itoa(at)
		if at > 63 {
			none = append(none, text)
			continue
		}
		list[text] = api.Instr{Op: api.TRIG, Area: api.Memory, At: at}
	}
	readsAs(t, "", list)
	refuses(t, none)
}

func TestLengths(t *testing.T) {
	instructions := func(n int) string { return strings.Repeat("RET\n", n) }
	tells(t, []told{
		{"", api.OK, 0},
		{"\n", api.OK, 0},
		{";", api.OK, 0},
		{strings.Repeat(" ", 4000), api.OK, 0},
		{strings.Repeat(" ", 4001), api.ErrLong, 0},
		{strings.Repeat("\n", 4000), api.OK, 0},
		{strings.Repeat("\n", 4001), api.ErrLong, 0},
		{strings.Repeat("x", 4000), api.ErrSyntax, 1},
		{strings.Repeat("x", 4001), api.ErrLong, 0},
		{";" + strings.Repeat("x", 3999), api.OK, 0},
		{";" + strings.Repeat("x", 4000), api.ErrLong, 0},
		{"nothing" + strings.Repeat(" ", 4000), api.ErrLong, 0},
		{strings.Repeat("\n", 3997) + "RET", api.OK, 0},
		{strings.Repeat("\n", 3998) + "RET", api.ErrLong, 0},
		{strings.Repeat("\n", 3998) + "LD", api.ErrSyntax, 3999},
		{strings.Repeat("x", 1<<20), api.ErrLong, 0},
		{instructions(200), api.OK, 0},
		{instructions(200) + "RET", api.ErrLong, 201},
		{instructions(200) + ";\n\n  \nRET", api.ErrLong, 204},
		{instructions(200) + "x: RET", api.ErrLong, 201},
		{instructions(200) + "x:", api.OK, 0},
		{instructions(200) + "x:\ny:\nVAR a AT %I0:BOOL", api.OK, 0},
		{instructions(200) + "x:\nRET", api.ErrLong, 202},
		{instructions(199) + "JMP x\nx:", api.OK, 0},
		{instructions(200) + "x:\nx: RET", api.ErrName, 202},
		{instructions(200) + "LD", api.ErrSyntax, 201},
		{instructions(200) + "LD a", api.ErrName, 201},
		{instructions(200) + "x: LD", api.ErrSyntax, 201},
		{instructions(200) + "x: LD a", api.ErrName, 201},
		{instructions(200) + "RET\nLD", api.ErrLong, 201},
		{instructions(200) + "JMP x", api.ErrLong, 201},
		{instructions(199) + "JMP x\nRET", api.ErrLong, 201},
		{"JMP x\n" + instructions(200), api.ErrLong, 201},
		{"JMP x\n" + instructions(199), api.ErrName, 1},
		{"x: RET\n" + instructions(199) + "x: RET", api.ErrName, 201},
		{"x: RET\n" + instructions(199) + "x: LD", api.ErrName, 201},
		{"LD\n" + instructions(201), api.ErrSyntax, 1},
		{instructions(800), api.ErrLong, 201},
		{strings.Repeat("ADD(\n", 200), api.OK, 0},
		{strings.Repeat(")\n", 201), api.ErrLong, 201},
	})
}

func TestJumps(t *testing.T) {
	tells(t, []told{
		{"JMP x", api.ErrName, 1},
		{"RET\nJMP x\nJMPC y\n", api.ErrName, 2},
		{"JMP x\nJMPC y\nx:", api.ErrName, 2},
		{"x:\nJMP x\nJMPC y\nJMPCN z", api.ErrName, 3},
		{"JMP x\nRET\nnothing", api.ErrSyntax, 3},
		{"JMP x\nRET\nLD y", api.ErrName, 3},
		{"a: JMP x ; with a label\n", api.ErrName, 1},
		{"\n\na: JMP b\nb: JMP c\nc: JMP d", api.ErrName, 5},
		{"VAR x AT %I0:BOOL\n\nJMP x", api.ErrName, 3},
		{"JMP X\nx:", api.ErrName, 1},
		{"JMP L0", api.ErrName, 1},
		{"JMP x\n;x:", api.ErrName, 1},
	})
	code, e, line := Assemble("JMP c\na: JMPC b\nb:\nJMPCN a\nc:\n\nd:\nJMP d\nJMP e\ne:\nf:")
	want := []api.Instr{{Op: api.JMP, At: 3}, {Op: api.JMPC, At: 2}, {Op: api.JMPCN, At: 1}, {Op: api.JMP, At: 3}, {Op: api.JMP, At: 5}}
	if e != api.OK || line != 0 || !slices.Equal(code, want) {
		t.Error(code, e, line)
	}
	for n := range 200 {
		text := "JMPC x\n" + strings.Repeat("RET\n", n) + "x:\n" + strings.Repeat("RET\n", 199-n)
		code, e, _ := Assemble(text)
		if e != api.OK || len(code) != 200 || code[0] != (api.Instr{Op: api.JMPC, At: n + 1}) {
			t.Fatalf("label behind %d others: %d, %d instructions", n, e, len(code))
		}
	}
}

// Which of two errors is told hangs on their order alone, wherever the lines stand.
func TestAllTriplesOfLines(t *testing.T) {
	r := reader{patterns()}
	lines := []string{
		"", "RET", "VAR a AT %I0:BOOL", "VAR a AT %M0:BOOL", "VAR b AT %M9:INT", "VAR b AT %I63:INT", "LD a", "ST a", "LD b", "S b", "a:", "b:", "a: RET", "a: LD b", "a: JMP a", "b: JMP a", "a: VAR b AT %I0:BOOL", "b: nothing", "a: LD", "JMP a", "JMPC b", "JMPCN c", "LD c", "nothing", "c: a: RET", "c: LD c", "; a: RET",
	}
	seen := map[api.Errno]int{}
	for _, first := range lines {
		for _, second := range lines {
			for _, third := range lines {
				seen[assembled(t, r, first+"\n"+second+"\n"+third)]++
			}
		}
	}
	for _, e := range []api.Errno{api.OK, api.ErrSyntax, api.ErrName} {
		if seen[e] < 100 {
			t.Errorf("%d was answered %d times", e, seen[e])
		}
	}
}

// All lines of up to three words of a list are read, behind lines that tell a name and a label.
func TestAllShortLines(t *testing.T) {
	r := reader{patterns()}
	list := []string{"LD", "ST", "R", "NOT", "AND", "JMP", "RET", "CONV", "TON", "TRIG", "ADD(", "NOT(", ")", "VAR", "AT", "a", "b", "x", "y", "x:", "y:", ":", "%M0:INT", "%I0:BOOL", "%M63:INT", "%M8", "%M8,5", "%M60,5", "INT#5", "INT#40000", "INT", "5", ";", "OPEN"}
	ahead := "VAR a AT %M0:INT\nVAR b AT %I0:BOOL\nx: JMP x\n"
	for _, first := range list {
		assembled(t, r, ahead+first)
		for _, second := range list {
			assembled(t, r, ahead+first+" "+second)
			assembled(t, r, ahead+first+second)
			for _, third := range list {
				assembled(t, r, ahead+first+" "+second+"  "+third)
			}
		}
	}
}

// All lines of four words of a list are read, and those of three and five that they make.
func TestAllLinesThatAreNearlyVar(t *testing.T) {
	r := reader{patterns()}
	list := []string{"VAR", "AT", "a", "b", "a:", "VAR:", "%M0:INT", "%I63:INT", "INT#5", "RET", "LD"}
	for _, first := range list {
		for _, second := range list {
			for _, third := range list {
				for _, fourth := range list {
					line := first + " " + second + " " + third + " " + fourth
					assembled(t, r, line)
					assembled(t, r, "VAR a AT %M0:INT\n"+line)
					assembled(t, r, line+" RET")
				}
			}
		}
	}
}

// A text in which all kinds of lines are, with one byte changed, taken out or put in.
func TestTextsThatDifferByOneByte(t *testing.T) {
	r := reader{patterns()}
	text := "VAR go AT %I0:BOOL ; x\n LD go\nJMPC e\nl1: AND(\nLD INT#-5\n)\nST %M4:INT\nTON %M8,10\nTRIG %R63\nCONV DINT\ne:"
	if e := assembled(t, r, text); e != api.OK {
		t.Fatal(e)
	}
	bytes := "\x00\t\n\r ;:#%,()-_+09aAegl1IQMRTN@[`{/\x80\xff"
	for n := range len(text) + 1 {
		for _, c := range []byte(bytes) {
			assembled(t, r, text[:n]+string([]byte{c})+text[n:])
			if n < len(text) {
				assembled(t, r, text[:n]+string([]byte{c})+text[n+1:])
			}
		}
		assembled(t, r, text[:n])
		assembled(t, r, text[n:])
		if n < len(text) {
			assembled(t, r, text[:n]+text[n+1:])
		}
	}
}

// drawnPlace is a place, with room or not.
func drawnPlace(d *dice) string {
	at := d.below(64)
	if d.below(8) == 0 {
		at = 56 + d.below(10)
	}
	return "%" + anyOf(d, []string{"I", "Q", "M", "R", "M", "M"}) + strconv.Itoa(at) + ":" + anyOf(d, kindTraits).name
}

// drawnLine is a line of a text, most often a good one.
func drawnLine(d *dice) string {
	names := []string{"a", "b", "c", "go", "LD", "L1", "x_9"}
	name := anyOf(d, names)
	ops := namesOf(spellings)
	var line string
	switch d.below(14) {
	case 0:
		line = "VAR " + name + " AT " + drawnPlace(d)
	case 1:
		line = anyOf(d, []string{"LD", "AND", "ADD", "LT", "LDN", "ST", "S"}) + " " + name
	case 2, 3:
		line = anyOf(d, []string{"LD", "OR", "MOD", "GE", "ST", "R", "STN"}) + " " + drawnPlace(d)
	case 4:
		tr := anyOf(d, kindTraits)
		line = anyOf(d, []string{"LD", "XORN", "MUL", "NE", "ANDN"}) + " " + tr.name + "#" + strconv.FormatInt(anyOf(d, []int64{0, 1, tr.least, tr.most, tr.most, tr.most / 2, tr.least, tr.most + int64(d.below(2))}), 10)
	case 5, 6:
		line = anyOf(d, []string{"JMP", "JMPC", "JMPCN"}) + " " + name
	case 7:
		line = anyOf(d, []string{"TON", "CTU"}) + " %" + anyOf(d, []string{"M", "R"}) + strconv.Itoa(d.below(61)) + "," + strconv.Itoa(d.below(10001))
	case 8:
		line = "TRIG %" + anyOf(d, []string{"M", "R"}) + strconv.Itoa(d.below(65))
	case 9:
		line = anyOf(d, []string{"NOT", "RET", "RETC", "RETCN", ")", "AND(", "LT(", "MUL(", "XOR("})
	case 10:
		line = "CONV " + anyOf(d, kindTraits).name
	case 11:
		line = anyOf(d, ops)
	case 12:
		line = anyOf(d, []string{"", " ", ";", "; RET", "  ; LD a"})
	case 13:
		line = anyOf(d, ops) + " " + name
	}
	if d.below(9) == 0 {
		line = anyOf(d, names) + ": " + line
	}
	if d.below(6) == 0 {
		line = strings.ReplaceAll(line, " ", "   ") + " ; " + name + ":"
	}
	return line
}

// goodLine is a drawn line that may stand where the ones ahead of it are.
func goodLine(d *dice, r reader, ahead string) string {
	for {
		line := drawnLine(d) + "\n"
		_, e, at := r.assemble(ahead + line)
		// A jump to a label that isn't there yet is good, too.
		if e == api.OK || e == api.ErrName && (at <= strings.Count(ahead, "\n") || strings.HasPrefix(line, "JMP")) {
			return line
		}
	}
}

func TestDrawnTexts(t *testing.T) {
	r := reader{patterns()}
	d := dice(12)
	for range 20000 {
		var text strings.Builder
		for range d.below(8) {
			text.WriteString(drawnLine(&d) + "\n")
		}
		assembled(t, r, text.String())
	}
	seen := map[api.Errno]int{}
	for range 800 {
		text := ""
		for range d.below(30) {
			text += goodLine(&d, r, text)
		}
		seen[assembled(t, r, text)]++
		for _, name := range []string{"a", "b", "c", "go", "LD", "L1", "x_9"} {
			if d.below(12) > 0 && r.lacks(text, name) {
				text += name + ":\n"
			}
		}
		seen[assembled(t, r, text)]++
		text += drawnLine(&d)
		seen[assembled(t, r, text)]++
	}
	for _, e := range []api.Errno{api.OK, api.ErrSyntax, api.ErrName} {
		if seen[e] < 50 {
			t.Errorf("%d was answered %d times", e, seen[e])
		}
	}
}

// lacks tells whether a label isn't in a text yet.
func (r reader) lacks(text, name string) bool {
	for _, line := range strings.Split(text, "\n") {
		if m := r.marks.FindStringSubmatch(line); m != nil && m[1] == name {
			return false
		}
	}
	return true
}

func TestDrawnBytes(t *testing.T) {
	r := reader{patterns()}
	d := dice(5)
	alphabets := []string{"LDST %I0:BOL\n;", "VARxAT M7:INT\n ", "JMPCNab: \nRET", "TONCU %MR0123,\n ", "\x00\xff\n ;:#%LD\t\r", "AND()RETX\n ;:", "SINTUWORD#-+0123456789 LD\n"}
	for range 40000 {
		letters := anyOf(&d, alphabets)
		text := make([]byte, d.below(24))
		for n := range text {
			text[n] = letters[d.below(len(letters))]
		}
		assembled(t, r, string(text))
		assembled(t, r, "LD "+string(text))
		assembled(t, r, "LD INT#"+string(text))
		assembled(t, r, "a: JMP "+string(text))
	}
}

// plainPrint prints by a list of lines, into which labels are put from the end on.
func plainPrint(code []api.Instr) (string, bool) {
	var lines []string
	var to []int
	for _, i := range code {
		if !plainRight(i) {
			return "", false
		}
		lines = append(lines, plainSpell(i)+"\n")
		if i.Op >= 25 && i.Op <= 27 {
			to = append(to, i.At)
		}
	}
	slices.Sort(to)
	to = slices.Compact(to)
	slices.Reverse(to)
	for _, at := range to {
		if at > len(code) {
			return "", false
		}
		lines = slices.Insert(lines, at, fmt.Sprintf("L%d:\n", at))
	}
	return strings.Join(lines, ""), true
}

// printed holds what Print answers against the plain way, and what is assembled of it against P12.2.
func printed(t *testing.T, code []api.Instr) bool {
	given := slices.Clone(code)
	text, ok := Print(code)
	want, wantOK := plainPrint(given)
	if text != want || ok != wantOK {
		t.Fatalf("Print(%v): %q, %v, not %q, %v", code, text, ok, want, wantOK)
	}
	if !slices.Equal(code, given) {
		t.Fatalf("Print(%v) changed what it was given: %v", given, code)
	}
	if !ok {
		return false
	}
	back, e, line := Assemble(text)
	if len(text) > 4000 {
		if back != nil || e != api.ErrLong || line != 0 {
			t.Fatalf("Assemble of %d bytes: %v, %d, %d", len(text), back, e, line)
		}
		return true
	}
	if len(code) > 200 {
		if back != nil || e != api.ErrLong || line < 201 {
			t.Fatalf("Assemble of %d instructions: %v, %d, %d", len(code), back, e, line)
		}
		return true
	}
	if !slices.Equal(back, code) || e != api.OK || line != 0 {
		t.Fatalf("Assemble(%q): %v, %d, %d, not %v", text, back, e, line, code)
	}
	return true
}

func TestPrint(t *testing.T) {
	ret, jmp := api.Instr{Op: api.RET}, func(at int) api.Instr { return api.Instr{Op: api.JMP, At: at} }
	for _, c := range []struct {
		code []api.Instr
		want string
		ok   bool
	}{
		{nil, "", true},
		{[]api.Instr{}, "", true},
		{[]api.Instr{ret}, "RET\n", true},
		{[]api.Instr{ret, {Op: api.CLOSE}}, "RET\n)\n", true},
		{[]api.Instr{jmp(0)}, "L0:\nJMP L0\n", true},
		{[]api.Instr{jmp(1)}, "JMP L1\nL1:\n", true},
		{[]api.Instr{jmp(2)}, "", false},
		{[]api.Instr{jmp(200)}, "", false},
		{[]api.Instr{jmp(201)}, "", false},
		{[]api.Instr{jmp(-1)}, "", false},
		{[]api.Instr{ret, jmp(1)}, "RET\nL1:\nJMP L1\n", true},
		{[]api.Instr{jmp(1), ret}, "JMP L1\nL1:\nRET\n", true},
		{[]api.Instr{jmp(2), ret}, "JMP L2\nRET\nL2:\n", true},
		{[]api.Instr{jmp(3), ret}, "", false},
		{[]api.Instr{jmp(2), jmp(2), {Op: api.JMPC, At: 2}}, "JMP L2\nJMP L2\nL2:\nJMPC L2\n", true},
		{[]api.Instr{jmp(2), jmp(1)}, "JMP L2\nL1:\nJMP L1\nL2:\n", true},
		{[]api.Instr{jmp(1), jmp(0), {Op: api.JMPCN, At: 3}}, "L0:\nJMP L1\nL1:\nJMP L0\nJMPCN L3\nL3:\n", true},
		{[]api.Instr{ret, {}}, "", false},
		{[]api.Instr{{}, ret}, "", false},
		{[]api.Instr{ret, {Op: api.RET, At: 1}, ret}, "", false},
		{[]api.Instr{{Op: api.OPEN, At: api.NOT}}, "", false},
		{[]api.Instr{{Op: api.OPEN, At: 9}}, "XOR(\n", true},
		{[]api.Instr{{Op: api.OPEN, At: 9}, {Op: api.TRIG, Area: 3, At: 9}, {Op: api.CONV, Kind: 1}}, "XOR(\nTRIG %M9\nCONV BOOL\n", true},
	} {
		if text, ok := Print(c.code); text != c.want || ok != c.ok {
			t.Errorf("Print(%v): %q, %v", c.code, text, ok)
		}
		printed(t, c.code)
	}
}

// rets are so many instructions that lead nowhere.
func rets(n int) []api.Instr {
	return slices.Repeat([]api.Instr{{Op: api.RET}}, n)
}

func TestPrintOfJumps(t *testing.T) {
	for _, length := range []int{1, 2, 9, 10, 11, 100, 199, 200, 201, 202, 300} {
		for _, from := range []int{0, length / 2, length - 1} {
			for _, to := range []int{-1, 0, 1, 8, 9, 10, 11, 99, 100, 198, 199, 200, 201, 202, 300, 301, length - 1, length, length + 1} {
				code := rets(length)
				code[from] = api.Instr{Op: api.JMPC, At: to}
				if ok := printed(t, code); ok != (to >= 0 && to <= min(length, 200)) {
					t.Fatalf("%d instructions, a jump from %d to %d: %v", length, from, to, ok)
				}
			}
		}
	}
	for length := range 201 {
		code := make([]api.Instr, length)
		for n := range code {
			code[n] = api.Instr{Op: api.JMP + n%3, At: length - n}
		}
		if !printed(t, code) {
			t.Fatal(length)
		}
	}
}

// What is printed of 4000 bytes is assembled; of 4001 it isn't.
func TestPrintAtTheLongestText(t *testing.T) {
	long := slices.Repeat([]api.Instr{{Op: api.ADD, Kind: api.Dword, N: 4294967295}}, 200)
	for last, length := range map[api.Instr]int{
		{Op: api.LT, Kind: api.Sint, N: 1}:  4000,
		{Op: api.AND, Kind: api.Bool, N: 1}: 4001,
	} {
		code := append(slices.Clone(long[:190]), last)
		if text, _ := Print(code); len(text) != length || !printed(t, code) {
			t.Errorf("%d bytes, not %d", len(text), length)
		}
		_, e, line := Assemble(plainText(code))
		if want := length == 4000; (e == api.OK) != want || line != 0 {
			t.Errorf("of %d bytes: %d, %d", length, e, line)
		}
	}
	if !printed(t, long) {
		t.Error("200 long ones are not printed")
	}
}

func plainText(code []api.Instr) string {
	text, _ := plainPrint(code)
	return text
}

// atItsEdges are the instructions of an operation that may be, at the ends of all that it asks for.
func atItsEdges(op int) []api.Instr {
	var list []api.Instr
	for kind := 0; kind <= 7; kind++ {
		for area := 0; area <= 4; area++ {
			for _, at := range somePlaces() {
				for _, n := range someNumbers() {
					if i := (api.Instr{Op: op, Kind: kind, Area: area, At: at, N: n}); plainRight(i) {
						list = append(list, i)
					}
				}
			}
		}
	}
	return list
}

// Each instruction that may be is printed and assembled, among as many others as a jump needs.
func TestWhatIsPrintedIsAssembledToTheSame(t *testing.T) {
	for op := api.LD; op <= api.TRIG; op++ {
		list := atItsEdges(op)
		if len(list) == 0 {
			t.Fatalf("operation %d: none may be", op)
		}
		for _, i := range list {
			code := []api.Instr{i}
			if op >= api.JMP && op <= api.JMPCN {
				code = append(rets(max(i.At-1, 0)), i)
			}
			if !printed(t, code) {
				t.Fatalf("%+v isn't printed", i)
			}
			if !printed(t, slices.Concat(code, code)) {
				t.Fatalf("%+v twice isn't printed", i)
			}
		}
	}
}

// drawnCode is a program of instructions that may be, with jumps within it and to its end.
func drawnCode(d *dice, edges [37][]api.Instr, length int) []api.Instr {
	code := make([]api.Instr, length)
	for n := range code {
		op := 1 + d.below(36)
		code[n] = anyOf(d, edges[op])
		if op >= api.JMP && op <= api.JMPCN {
			code[n] = api.Instr{Op: op, At: d.below(min(length, 200) + 1)}
		}
	}
	return code
}

func TestDrawnPrograms(t *testing.T) {
	var edges [37][]api.Instr
	for op := 1; op <= 36; op++ {
		edges[op] = atItsEdges(op)
	}
	d := dice(3)
	for range 3000 {
		length := d.below(30)
		if d.below(6) == 0 {
			length = 150 + d.below(60)
		}
		code := drawnCode(&d, edges, length)
		if !printed(t, code) {
			t.Fatalf("not printed: %v", code)
		}
		if length == 0 {
			continue
		}
		// One number of one instruction is changed, so that it may or may not be any more.
		n := d.below(length)
		switch d.below(5) {
		case 0:
			code[n].Op = d.below(39) - 1
		case 1:
			code[n].Kind = d.below(10) - 1
		case 2:
			code[n].Area = d.below(7) - 1
		case 3:
			code[n].At = anyOf(&d, somePlaces())
		case 4:
			code[n].N = anyOf(&d, someNumbers())
		}
		printed(t, code)
	}
}

// What Assemble answers is what Print prints to a text that is assembled to the same, too.
func TestWhatIsAssembledIsPrinted(t *testing.T) {
	d := dice(44)
	r := reader{patterns()}
	done := 0
	for done < 300 {
		text := ""
		for range 1 + d.below(12) {
			text += goodLine(&d, r, text)
		}
		code, e, _ := Assemble(text)
		if e != api.OK {
			continue
		}
		done++
		for _, i := range code {
			if !Right(i) {
				t.Fatalf("Assemble(%q): %+v", text, i)
			}
		}
		if !printed(t, code) {
			t.Fatalf("Print(%v) refuses", code)
		}
	}
}

func TestWhatIsHandedInStays(t *testing.T) {
	code := []api.Instr{{Op: api.JMP, At: 2}, {Op: api.LD, Kind: api.Int, N: 5}, {Op: api.RET}, {Op: api.JMPC, At: 1}, {}}
	given := slices.Clone(code)
	for n := range len(code) + 1 {
		part := code[:n]
		Print(part)
		if !slices.Equal(code, given) {
			t.Fatalf("Print of the first %d changed them: %v", n, code)
		}
	}
}

func TestWhatWasAnsweredStays(t *testing.T) {
	text := "VAR x AT %M0:INT\nLD x\nJMP e\nl: ADD INT#1\nJMPC l\ne:"
	first, _, _ := Assemble(text)
	kept := slices.Clone(first)
	second, _, _ := Assemble(text)
	for n := range second {
		second[n] = api.Instr{Op: -1}
	}
	// What is put behind one answer isn't in the memory of another.
	_ = append(first, api.Instr{Op: -2})
	third, _, _ := Assemble(text)
	_ = append(second, api.Instr{Op: -3})
	Assemble("RET\nRET\nRET\nRET\nRET")
	if !slices.Equal(first, kept) || !slices.Equal(third, kept) {
		t.Errorf("%v and %v, not %v", first, third, kept)
	}
	printedFirst, _ := Print(first)
	keptText := strings.Clone(printedFirst)
	for n := range first {
		first[n] = api.Instr{Op: api.NOT}
	}
	Print(first)
	if printedFirst != keptText {
		t.Errorf("%q, not %q", printedFirst, keptText)
	}
}

// A name that one text tells is not there for the next one.
func TestNothingIsKeptFromTextToText(t *testing.T) {
	if _, e, _ := Assemble("VAR x AT %M0:INT\ny: LD x"); e != api.OK {
		t.Fatal(e)
	}
	for _, text := range []string{"LD x", "JMP y"} {
		if _, e, line := Assemble(text); e != api.ErrName || line != 1 {
			t.Errorf("Assemble(%q): %d, %d", text, e, line)
		}
	}
	for range 2 {
		if code, e, _ := Assemble("VAR x AT %M0:INT\ny: LD x"); e != api.OK || len(code) != 1 {
			t.Error(code, e)
		}
	}
}

func TestEveryCallEnds(t *testing.T) {
	d := dice(99)
	texts := []string{"", "\n", ";", ":", "%", "#", ",", "(", ")", " ", "%M", "VAR", "%M0:", "LD %", "LD #", "LD :", "TON ,", "TRIG %", "\x00", "\xff\xfe", "LD %\xff0:BOOL", strings.Repeat(":", 4000), strings.Repeat("#", 5000), strings.Repeat(" ", 4000)}
	for range 3000 {
		text := make([]byte, d.below(80))
		for n := range text {
			text[n] = byte(d.next())
		}
		texts = append(texts, string(text))
	}
	for _, text := range texts {
		first, firstE, firstLine := Assemble(text)
		second, secondE, secondLine := Assemble(text)
		if !slices.Equal(first, second) || firstE != secondE || firstLine != secondLine || firstE != api.OK && first != nil {
			t.Fatalf("Assemble(%q): two answers", text)
		}
		one, oneOK := Op(text)
		two, twoOK := Op(text)
		if one != two || oneOK != twoOK {
			t.Fatalf("Op(%q): two answers", text)
		}
	}
	ends := []int{math.MinInt, -1, 0, 1, 3, 4, math.MaxInt}
	for _, op := range allOps() {
		for _, kind := range ends {
			for _, area := range ends {
				for _, at := range ends {
					for _, n := range []int64{math.MinInt64, -1, 0, 1, math.MaxInt64} {
						i := api.Instr{Op: op, Kind: kind, Area: area, At: at, N: n}
						if Right(i) != Right(i) || Spell(i) != Spell(i) {
							t.Fatalf("%+v: two answers", i)
						}
						first, firstOK := Print([]api.Instr{i, {Op: api.RET}})
						second, secondOK := Print([]api.Instr{i, {Op: api.RET}})
						if first != second || firstOK != secondOK || !firstOK && first != "" {
							t.Fatalf("Print of %+v: %q and %q", i, first, second)
						}
					}
				}
			}
		}
	}
}
