package blocks

import (
	"math"
	"slices"
	"strings"
	"testing"

	"fugleman/api"
)

// edges are numbers at the ends of each field, beside them, and far beyond, many of these with a number that may be in their lowest bits.
func edges() []int {
	return []int{
		math.MinInt, math.MinInt + 1, math.MinInt + 5, -1<<32 + 5, -1 << 32, -1 << 31, -65536 + 5, -256, -65, -64, -33, -32, -17, -16, -15, -2, -1,
		0, 1, 2, 14, 15, 16, 17, 30, 31, 32, 33, 48, 49, 63, 64, 65, 66,
		100, 127, 128, 255, 256, 257, 261, 65536, 65541, 1<<31 - 1, 1 << 31, 1<<32 - 1, 1 << 32, 1<<32 + 5, math.MaxInt - 15, math.MaxInt - 1, math.MaxInt,
	}
}

// directory tells n blocks that may be; no two have one ID, if they are no more than 16, and the IDs don't rise.
func directory(n int) []api.Block {
	l := []api.Block{}
	for i := range n {
		l = append(l, api.Block{ID: (7*i + 3) % 16, Addr: (11*i + 5) % 32, Size: (13*i+40)%64 + 1, High: i%3 == 1})
	}
	return l
}

// The plain ones below go by the words of the chapter, in another way.

func within(n, from, to int) bool {
	return from <= n && n <= to
}

// plainCheck goes from the last error that may be told to the first one, so that what stays is the first one.
func plainCheck(l []api.Block) (api.Errno, int) {
	e, at := api.OK, 0
	for i := len(l) - 1; i >= 0; i-- {
		for _, ahead := range l[:i] {
			if ahead.ID == l[i].ID {
				e, at = api.ErrTwice, i
			}
		}
		if !within(l[i].ID, 0, 15) || !within(l[i].Addr, 0, 31) || !within(l[i].Size, 1, 64) {
			e, at = api.ErrForm, i
		}
	}
	if len(l) >= 17 {
		e, at = api.ErrLong, 16
	}
	return e, at
}

// plainFind goes from the last block to the first one.
func plainFind(l []api.Block, id int) (api.Block, bool) {
	found, some := api.Block{}, false
	for _, b := range slices.Backward(l) {
		if b.ID == id {
			found, some = b, true
		}
	}
	return found, some
}

// plainOf strikes out the blocks that others publish.
func plainOf(l []api.Block, addr int) []int {
	own := slices.DeleteFunc(slices.Clone(l), func(b api.Block) bool { return b.Addr != addr })
	ids := make([]int, len(own))
	for i, b := range own {
		ids[i] = b.ID
	}
	return ids
}

// plainParts deals out a value's bytes one by one, each into a new part where the last one has 16.
func plainParts(value string) []string {
	list := []string{}
	if !within(len(value), 1, 64) {
		return list
	}
	for i := range len(value) {
		if i%16 == 0 {
			list = append(list, "")
		}
		list[len(list)-1] += value[i : i+1]
	}
	return list
}

// plainPiece tells the part's bytes and those ahead of it, counted in a value of that size.
func plainPiece(size, part int) (int, int) {
	if !within(size, 1, 64) {
		return 0, 0
	}
	at := 0
	for i, s := range plainParts(strings.Repeat("x", size)) {
		if i == part {
			return at, len(s)
		}
		at += len(s)
	}
	return 0, 0
}

func plainCut(value string, part int) string {
	for i, s := range plainParts(value) {
		if i == part {
			return s
		}
	}
	return ""
}

// The checks below ask a call, and tell what it answers otherwise than it should.

func check(t *testing.T, what string, l []api.Block, want api.Errno, wantAt int) {
	t.Helper()
	if e, at := Check(l); e != want || at != wantAt {
		t.Errorf("%s: Check(%v) = %d, %d, want %d, %d", what, l, e, at, want, wantAt)
	}
}

func find(t *testing.T, what string, l []api.Block, id int, want api.Block, wantOK bool) {
	t.Helper()
	if b, ok := Find(l, id); b != want || ok != wantOK {
		t.Errorf("%s: Find(%v, %d) = %v, %v, want %v, %v", what, l, id, b, ok, want, wantOK)
	}
}

func of(t *testing.T, what string, l []api.Block, addr int, want ...int) {
	t.Helper()
	if ids := Of(l, addr); !slices.Equal(ids, want) {
		t.Errorf("%s: Of(%v, %d) = %v, want %v", what, l, addr, ids, want)
	}
}

func piece(t *testing.T, size, part, want, wantN int) {
	t.Helper()
	if at, n := Piece(size, part); at != want || n != wantN {
		t.Errorf("Piece(%d, %d) = %d, %d, want %d, %d", size, part, at, n, want, wantN)
	}
}

func cut(t *testing.T, value string, part int, want string) {
	t.Helper()
	if s := Cut(value, part); s != want {
		t.Errorf("Cut(%q, %d) = %q, want %q", value, part, s, want)
	}
}

func TestTheExample(t *testing.T) {
	if n := Parts(33); n != 3 {
		t.Errorf("Parts(33) = %d", n)
	}
	piece(t, 33, 2, 32, 1)
}

func TestCheckOfDirectoriesThatMayBe(t *testing.T) {
	check(t, "nil", nil, api.OK, 0)
	check(t, "empty", []api.Block{}, api.OK, 0)
	for n := range 17 {
		check(t, "of each length", directory(n), api.OK, 0)
	}
	alike := []api.Block{}
	for id := range 16 {
		alike = append(alike, api.Block{ID: id, Addr: 31, Size: 64, High: true})
	}
	check(t, "alike but for the ID", alike, api.OK, 0)
	slices.Reverse(alike)
	check(t, "falling", alike, api.OK, 0)
	check(t, "cut off behind 16", directory(40)[:16], api.OK, 0)
}

// TestCheckOfMoreThanMayBe has blocks that may be, and no ID twice but where there must be.
func TestCheckOfMoreThanMayBe(t *testing.T) {
	for _, n := range []int{17, 18, 31, 32, 33, 64, 100, 255, 256, 257, 272, 1000, 65536, 65537, 65552} {
		if e, at := Check(directory(n)); e != api.ErrLong || at != 16 {
			t.Errorf("of %d blocks: %d, %d", n, e, at)
		}
	}
	check(t, "zero values", make([]api.Block, 17), api.ErrLong, 16)
}

// TestCheckOfOneBlock goes through all triples of edges.
func TestCheckOfOneBlock(t *testing.T) {
	for _, id := range edges() {
		for _, addr := range edges() {
			for _, size := range edges() {
				want := api.ErrForm
				if within(id, 0, 15) && within(addr, 0, 31) && within(size, 1, 64) {
					want = api.OK
				}
				for _, high := range []bool{false, true} {
					check(t, "one block", []api.Block{{ID: id, Addr: addr, Size: size, High: high}}, want, 0)
				}
			}
		}
	}
	check(t, "a zero value", []api.Block{{}}, api.ErrForm, 0)
}

// TestCheckOfEachFieldAtEachPlace has one block that differs from those that may be, in a directory of each length.
func TestCheckOfEachFieldAtEachPlace(t *testing.T) {
	for _, c := range []struct {
		name     string
		field    func(b *api.Block) *int
		from, to int
	}{
		{"ID", func(b *api.Block) *int { return &b.ID }, 0, 15},
		{"Addr", func(b *api.Block) *int { return &b.Addr }, 0, 31},
		{"Size", func(b *api.Block) *int { return &b.Size }, 1, 64},
	} {
		for n := 1; n <= 16; n++ {
			for at := range n {
				for _, number := range edges() {
					l := directory(n)
					if c.name == "ID" && slices.ContainsFunc(l, func(b api.Block) bool { return b.ID == number }) {
						continue
					}
					*c.field(&l[at]) = number
					if within(number, c.from, c.to) {
						check(t, c.name, l, api.OK, 0)
					} else {
						check(t, c.name, l, api.ErrForm, at)
					}
				}
			}
		}
	}
}

// TestCheckOfOneIDTwice has it at each pair of places of directories of each length.
func TestCheckOfOneIDTwice(t *testing.T) {
	for n := 2; n <= 16; n++ {
		for second := range n {
			for first := range second {
				l := directory(n)
				l[second].ID = l[first].ID
				check(t, "of two addresses", l, api.ErrTwice, second)
				l[second].Addr = l[first].Addr
				check(t, "of one address", l, api.ErrTwice, second)
				l[second] = l[first]
				check(t, "the same block", l, api.ErrTwice, second)
				for third := second + 1; third < n; third++ {
					l[third].ID = l[first].ID
				}
				check(t, "and more of them", l, api.ErrTwice, second)
			}
		}
	}
}

// wrongs are ways in which a block may not be, by the error that is told of it.
func wrongs() []struct {
	name string
	mar  func(l []api.Block, at int)
	want api.Errno
} {
	return []struct {
		name string
		mar  func(l []api.Block, at int)
		want api.Errno
	}{
		{"a wrong ID", func(l []api.Block, at int) { l[at].ID = 16 }, api.ErrForm},
		{"a wrong Addr", func(l []api.Block, at int) { l[at].Addr = -1 }, api.ErrForm},
		{"a wrong Size", func(l []api.Block, at int) { l[at].Size = 0 }, api.ErrForm},
		{"an ID twice", func(l []api.Block, at int) { l[at].ID = l[0].ID }, api.ErrTwice},
		{"both, by its Addr", func(l []api.Block, at int) { l[at].ID, l[at].Addr = l[0].ID, 32 }, api.ErrForm},
		{"both, by its Size", func(l []api.Block, at int) { l[at].ID, l[at].Size = l[0].ID, 65 }, api.ErrForm},
	}
}

// TestCheckTellsTheFirstError has one error at each place behind the first one, and another at each place behind that.
func TestCheckTellsTheFirstError(t *testing.T) {
	for _, one := range wrongs() {
		for at := 1; at < 16; at++ {
			l := directory(16)
			one.mar(l, at)
			check(t, one.name, l, one.want, at)
			for _, other := range wrongs() {
				for later := at + 1; later < 16; later++ {
					both := slices.Clone(l)
					other.mar(both, later)
					check(t, one.name+", then "+other.name, both, one.want, at)
				}
			}
		}
	}
}

// TestCheckOfAWrongIDTwice: the first one of them is told.
func TestCheckOfAWrongIDTwice(t *testing.T) {
	for _, id := range []int{math.MinInt, -1, 16, math.MaxInt} {
		check(t, "two", []api.Block{{ID: id, Size: 1}, {ID: id, Size: 1}}, api.ErrForm, 0)
		check(t, "behind one that may be", []api.Block{{Size: 1}, {ID: id, Size: 1}, {ID: id, Size: 1}}, api.ErrForm, 1)
	}
	// An ID stands ahead, though its block may not be for another reason.
	check(t, "a wrong Size, then its ID again", []api.Block{{ID: 4, Size: 1}, {ID: 5}, {ID: 5, Size: 1}}, api.ErrForm, 1)
}

// TestCheckOfMoreThanMayBeComesFirst has an error of a block in a directory that is too long.
func TestCheckOfMoreThanMayBeComesFirst(t *testing.T) {
	for _, n := range []int{17, 18, 40} {
		for _, one := range wrongs() {
			for at := range n {
				l := directory(n)
				one.mar(l, at)
				check(t, one.name+", and too many", l, api.ErrLong, 16)
			}
		}
	}
}

func TestFind(t *testing.T) {
	one := api.Block{ID: 5, Addr: 7, Size: 9, High: true}
	two := api.Block{ID: 5, Addr: 8, Size: 10}
	low, high := api.Block{ID: math.MinInt, Addr: -1, Size: -1}, api.Block{ID: math.MaxInt, Addr: 32, Size: 65, High: true}
	minus, beyond := api.Block{ID: -1, Addr: 3, Size: 4}, api.Block{ID: 16, Addr: 3, Size: 4}
	none := api.Block{}
	for _, c := range []struct {
		name string
		l    []api.Block
		id   int
		want api.Block
		ok   bool
	}{
		{"in nil", nil, 0, none, false},
		{"in nil", nil, 5, none, false},
		{"in none", []api.Block{}, 0, none, false},
		{"the only one", []api.Block{one}, 5, one, true},
		{"one beside the only one", []api.Block{one}, 4, none, false},
		{"an Addr, not an ID", []api.Block{one}, 7, none, false},
		{"a Size, not an ID", []api.Block{one}, 9, none, false},
		{"a place, not an ID", []api.Block{one}, 0, none, false},
		{"twice, the one first", []api.Block{one, two}, 5, one, true},
		{"twice, the other one first", []api.Block{two, one}, 5, two, true},
		{"twice, behind others", []api.Block{minus, two, beyond, one}, 5, two, true},
		{"-1, which is there", []api.Block{one, minus}, -1, minus, true},
		{"-1, which isn't", []api.Block{one, two}, -1, none, false},
		{"16, which is there", []api.Block{one, beyond}, 16, beyond, true},
		{"16, which isn't", []api.Block{one, two}, 16, none, false},
		{"the least int, which is there", []api.Block{high, low}, math.MinInt, low, true},
		{"the least int, which isn't", []api.Block{high, one}, math.MinInt, none, false},
		{"the greatest int, which is there", []api.Block{low, high}, math.MaxInt, high, true},
		{"the greatest int, which isn't", []api.Block{low, one}, math.MaxInt, none, false},
		{"one with the same lowest bits", []api.Block{one}, 1<<32 + 5, none, false},
		{"one with the same lowest bits, below 0", []api.Block{one}, -256 + 5, none, false},
		{"a zero value, which is there", []api.Block{one, none}, 0, none, true},
	} {
		find(t, c.name, c.l, c.id, c.want, c.ok)
	}
}

// TestFindOfEachID goes through all IDs and edges, in directories of each length, also of more than may be.
func TestFindOfEachID(t *testing.T) {
	for n := range 17 {
		l := directory(n)
		for i, b := range l {
			find(t, "one that is there", l, b.ID, l[i], true)
			find(t, "one that isn't there any more", append(slices.Clone(l[:i]), l[i+1:]...), b.ID, api.Block{}, false)
		}
		for _, id := range edges() {
			want, ok := plainFind(l, id)
			find(t, "an edge", l, id, want, ok)
		}
	}
	many := directory(40)
	for i := range many {
		many[i].ID = 1000 + i
	}
	for i, b := range many {
		find(t, "of many", many, b.ID, many[i], true)
	}
	find(t, "of many", many, 1040, api.Block{}, false)
}

func TestOf(t *testing.T) {
	l := []api.Block{{ID: 3, Addr: 1, Size: 64}, {ID: 0, Addr: 31, Size: 1, High: true}, {ID: 15, Addr: 1, Size: 16}, {ID: 7, Addr: 0, Size: 2}, {ID: 2, Addr: 1, Size: 2}}
	for addr := range 32 {
		switch addr {
		case 0:
			of(t, "one", l, addr, 7)
		case 1:
			of(t, "some, not rising", l, addr, 3, 15, 2)
		case 31:
			of(t, "one", l, addr, 0)
		default:
			of(t, "none", l, addr)
		}
	}
	for _, addr := range edges() {
		of(t, "in nil", nil, addr)
		of(t, "in none", []api.Block{}, addr)
		if !within(addr, 0, 31) {
			of(t, "no address", l, addr)
		}
	}
}

// TestOfOfEachAddress lets it publish all blocks, all but one, one, and none.
func TestOfOfEachAddress(t *testing.T) {
	for addr := range 32 {
		l, ids := directory(16), []int{}
		for i := range l {
			l[i].Addr = addr
			ids = append(ids, l[i].ID)
		}
		of(t, "all", l, addr, ids...)
		of(t, "none", l, (addr+1)%32)
		for i := range l {
			other := slices.Clone(l)
			other[i].Addr = (addr + 1) % 32
			of(t, "all but one", other, addr, slices.Delete(slices.Clone(ids), i, i+1)...)
			of(t, "one", other, (addr+1)%32, ids[i])
		}
	}
}

// TestOfOfDirectoriesThatMayNotBe: what stands there is told, as it stands there.
func TestOfOfDirectoriesThatMayNotBe(t *testing.T) {
	l := []api.Block{{ID: 4, Addr: 2}, {ID: 9, Addr: 2, Size: 1}, {ID: 4, Addr: 2, Size: 65}, {ID: 4, Addr: 3}, {ID: -1, Addr: 3}, {ID: math.MaxInt, Addr: 3, Size: -1}, {ID: math.MinInt, Addr: 3}}
	of(t, "an ID twice", l, 2, 4, 9, 4)
	of(t, "IDs that are none", l, 3, 4, -1, math.MaxInt, math.MinInt)
	for _, addr := range edges() {
		own := []api.Block{{ID: 6, Addr: 5, Size: 1}, {ID: 8, Addr: addr, Size: 1}, {ID: 1, Addr: addr, Size: 1}}
		if addr == 5 {
			own[0].Addr = 6
		}
		of(t, "an edge, published by", own, addr, 8, 1)
	}
	many := directory(100)
	ids := []int{}
	for i := range many {
		many[i].Addr = 20
		ids = append(ids, many[i].ID)
	}
	of(t, "more than may be", many, 20, ids...)
}

func TestParts(t *testing.T) {
	for size := -1; size <= 65; size++ {
		want := 0
		switch {
		case within(size, 1, 16):
			want = 1
		case within(size, 17, 32):
			want = 2
		case within(size, 33, 48):
			want = 3
		case within(size, 49, 64):
			want = 4
		}
		if n := Parts(size); n != want {
			t.Errorf("Parts(%d) = %d, want %d", size, n, want)
		}
	}
	for _, size := range edges() {
		if n := Parts(size); !within(size, 1, 64) && n != 0 {
			t.Errorf("Parts(%d) = %d", size, n)
		}
	}
}

func TestPiece(t *testing.T) {
	for _, c := range [][4]int{
		{1, 0, 0, 1}, {1, 1, 0, 0}, {15, 0, 0, 15}, {16, 0, 0, 16}, {16, 1, 0, 0}, {17, 0, 0, 16}, {17, 1, 16, 1}, {17, 2, 0, 0},
		{32, 0, 0, 16}, {32, 1, 16, 16}, {32, 2, 0, 0}, {33, 1, 16, 16}, {33, 2, 32, 1}, {48, 2, 32, 16}, {48, 3, 0, 0}, {49, 3, 48, 1},
		{63, 3, 48, 15}, {64, 0, 0, 16}, {64, 1, 16, 16}, {64, 2, 32, 16}, {64, 3, 48, 16}, {64, 4, 0, 0}, {64, -1, 0, 0},
		{0, 0, 0, 0}, {0, -1, 0, 0}, {-1, 0, 0, 0}, {-1, -1, 0, 0}, {-16, -1, 0, 0}, {65, 0, 0, 0}, {65, 3, 0, 0}, {65, 4, 0, 0}, {80, 4, 0, 0},
	} {
		piece(t, c[0], c[1], c[2], c[3])
	}
	for size := range 66 {
		parts := len(plainParts(strings.Repeat("x", size)))
		for part := -1; part <= parts+1; part++ {
			at, n := plainPiece(size, part)
			piece(t, size, part, at, n)
		}
	}
}

func TestPieceAtTheEdges(t *testing.T) {
	for size := -2; size <= 66; size++ {
		for _, part := range edges() {
			at, n := plainPiece(size, part)
			piece(t, size, part, at, n)
		}
	}
	for _, size := range edges() {
		for _, part := range edges() {
			at, n := plainPiece(size, part)
			piece(t, size, part, at, n)
		}
	}
}

// ramp tells a text of n bytes, from a first one on, each greater by step than the one ahead.
func ramp(n, first, step int) string {
	bytes := make([]byte, n)
	for i := range bytes {
		bytes[i] = byte(first + i*step)
	}
	return string(bytes)
}

// lengths are those that values have, and some that none has.
func lengths() []int {
	list := []int{100, 128, 256, 257, 1000}
	for n := range 66 {
		list = append(list, n)
	}
	return list
}

func TestCut(t *testing.T) {
	value := ramp(64, 'A', 1)
	for _, c := range []struct {
		value string
		part  int
		want  string
	}{
		{"", 0, ""}, {"", -1, ""}, {"", 1, ""},
		{"a", 0, "a"}, {"a", 1, ""}, {"a", -1, ""},
		{value[:16], 0, value[:16]}, {value[:16], 1, ""},
		{value[:17], 0, value[:16]}, {value[:17], 1, value[16:17]}, {value[:17], 2, ""},
		{value[:40], 2, value[32:40]},
		{value, 0, value[:16]}, {value, 1, value[16:32]}, {value, 2, value[32:48]}, {value, 3, value[48:]}, {value, 4, ""}, {value, -1, ""},
		{value + "x", 0, ""}, {value + "x", 3, ""}, {value + "x", 4, ""},
		{value + value, 0, ""}, {value, math.MinInt, ""}, {value, math.MaxInt, ""}, {value, 1 << 32, ""}, {value, -256, ""}, {value, 256, ""},
		// Bytes are counted, not runes: one rune is cut in two.
		{strings.Repeat("\u20ac", 7), 0, strings.Repeat("\u20ac", 5) + "\xe2"}, {strings.Repeat("\u20ac", 7), 1, "\x82\xac\u20ac"},
		{"\x00\x00", 0, "\x00\x00"}, {strings.Repeat("\xff", 20), 1, "\xff\xff\xff\xff"},
	} {
		cut(t, c.value, c.part, c.want)
	}
}

// TestCutOfEachLength has bytes that all differ, as far as there are so many, and bytes of every value at every place.
func TestCutOfEachLength(t *testing.T) {
	for _, n := range lengths() {
		for first := range 256 {
			for _, step := range []int{1, 0, 37} {
				value := ramp(n, first, step)
				parts := plainParts(value)
				for part := -1; part <= len(parts)+1; part++ {
					cut(t, value, part, plainCut(value, part))
				}
			}
		}
		for _, part := range edges() {
			value := ramp(n, 200, 1)
			cut(t, value, part, plainCut(value, part))
		}
	}
}

// TestThePartsAreTheValue holds P16.2.
func TestThePartsAreTheValue(t *testing.T) {
	for n := 1; n <= 64; n++ {
		for first := range 256 {
			value, joined := ramp(n, first, 3), ""
			for part := range Parts(n) {
				s := Cut(value, part)
				at, size := Piece(n, part)
				if len(s) != size || at != len(joined) || value[at:at+size] != s {
					t.Fatalf("%d bytes, part %d: %q, and Piece = %d, %d, behind %d bytes", n, part, s, at, size, len(joined))
				}
				if !within(len(s), 1, 16) || len(s) < 16 && part != Parts(n)-1 {
					t.Errorf("%d bytes: part %d has %d", n, part, len(s))
				}
				joined += s
			}
			if joined != value {
				t.Fatalf("%d bytes: together %q, want %q", n, joined, value)
			}
			for _, part := range []int{-1, Parts(n), Parts(n) + 1} {
				cut(t, value, part, "")
			}
			if 16*(Parts(n)-1) >= n {
				t.Errorf("%d bytes: %d parts are more than there must be", n, Parts(n))
			}
		}
	}
}

// dice draws numbers, the same ones each time.
type dice uint32

func (d *dice) roll(below int) int {
	*d = *d*1664525 + 1013904223
	return int(*d>>8) % below
}

// field draws a number from the least to the greatest one that a field may have; of so many one is an edge instead.
func (d *dice) field(from, to, rare int) int {
	if d.roll(rare) == 0 {
		return edges()[d.roll(len(edges()))]
	}
	return from + d.roll(to-from+1)
}

// draw tells n blocks; of so many numbers one is an edge, and of so many blocks one has any ID, the others one that none ahead has.
func (d *dice) draw(n, rare, twice int) []api.Block {
	l, shift := []api.Block{}, d.roll(16)
	for i := range n {
		b := api.Block{ID: (5*i + shift) % 16, Addr: d.field(0, 31, rare), Size: d.field(1, 64, rare), High: d.roll(2) == 0}
		if d.roll(twice) == 0 {
			b.ID = d.field(0, 15, rare)
		}
		l = append(l, b)
	}
	return l
}

// TestDrawnDirectories holds many of them against the second way, and looks that all sorts of them came.
func TestDrawnDirectories(t *testing.T) {
	d, seen := dice(16), map[api.Errno]int{}
	for range 20000 {
		l := d.draw(d.roll(19), 2+d.roll(200), 1+d.roll(40))
		e, at := plainCheck(l)
		seen[e]++
		check(t, "drawn", l, e, at)
		for id := -1; id <= 17; id++ {
			b, ok := plainFind(l, id)
			find(t, "drawn", l, id, b, ok)
		}
		for addr := -1; addr <= 33; addr++ {
			of(t, "drawn", l, addr, plainOf(l, addr)...)
		}
		for _, b := range l {
			first, ok := plainFind(l, b.ID)
			find(t, "drawn, one of its own", l, b.ID, first, ok)
			of(t, "drawn, one of its own", l, b.Addr, plainOf(l, b.Addr)...)
		}
	}
	for _, e := range []api.Errno{api.OK, api.ErrLong, api.ErrForm, api.ErrTwice} {
		if seen[e] < 500 {
			t.Errorf("%d came %d times only", e, seen[e])
		}
	}
}

// TestAllShortDirectories goes through all directories of up to three blocks out of some.
func TestAllShortDirectories(t *testing.T) {
	some := []api.Block{
		{ID: 0, Addr: 0, Size: 1}, {ID: 0, Addr: 31, Size: 64}, {ID: 15, Addr: 0, Size: 64, High: true}, {ID: 15, Addr: 0, Size: 65},
		{ID: 16, Addr: 1, Size: 1}, {ID: -1, Addr: 1, Size: 1}, {ID: 7, Addr: 32, Size: 1}, {ID: 7, Addr: -1, Size: 1}, {ID: 7, Addr: 1}, {ID: 7, Addr: 1, Size: 2}, {},
	}
	lists := [][]api.Block{nil}
	for i := 0; i < len(lists); i++ {
		l := lists[i]
		e, at := plainCheck(l)
		check(t, "short", l, e, at)
		for _, n := range []int{math.MinInt, -1, 0, 1, 7, 15, 16, 31, 32, math.MaxInt} {
			b, ok := plainFind(l, n)
			find(t, "short", l, n, b, ok)
			of(t, "short", l, n, plainOf(l, n)...)
		}
		for _, b := range some {
			if len(l) < 3 {
				lists = append(lists, append(slices.Clone(l), b))
			}
		}
	}
}

// TestEveryCallEnds holds P0 and R7: each call answers at all arguments, and the same once more.
func TestEveryCallEnds(t *testing.T) {
	d := dice(0)
	lists := [][]api.Block{nil, {}, make([]api.Block, 1), make([]api.Block, 16), make([]api.Block, 17), make([]api.Block, 5000)}
	for range 50 {
		lists = append(lists, d.draw(d.roll(30), 1+d.roll(4), 1+d.roll(4)))
	}
	for _, l := range lists {
		e, at := Check(l)
		if again, atAgain := Check(slices.Clone(l)); again != e || atAgain != at {
			t.Errorf("Check(%v): two answers", l)
		}
		for _, n := range edges() {
			b, ok := Find(l, n)
			if again, okAgain := Find(slices.Clone(l), n); again != b || okAgain != ok {
				t.Errorf("Find(%v, %d): two answers", l, n)
			}
			if !slices.Equal(Of(l, n), Of(slices.Clone(l), n)) {
				t.Errorf("Of(%v, %d): two answers", l, n)
			}
		}
	}
	for _, size := range edges() {
		parts := Parts(size)
		if again := Parts(size); again != parts {
			t.Errorf("Parts(%d): two answers", size)
		}
		for _, part := range edges() {
			at, n := Piece(size, part)
			piece(t, size, part, at, n)
		}
	}
	for _, value := range []string{"", "\xff\xfe", "\x00", strings.Repeat("\xed\xa0\x80", 21), strings.Repeat("x", 1<<16), ramp(1<<16+20, 0, 1), ramp(64, 128, 1)} {
		for _, part := range edges() {
			cut(t, value, part, Cut(value, part))
		}
	}
}

// TestWhatIsGivenStaysAsItIs holds R4 for a list and for what lies behind its end.
func TestWhatIsGivenStaysAsItIs(t *testing.T) {
	d := dice(4)
	for range 300 {
		whole := d.draw(30, 1+d.roll(50), 1+d.roll(20))
		kept := slices.Clone(whole)
		l := whole[5 : 5+d.roll(20)]
		Check(l)
		for n := -1; n <= 33; n++ {
			Find(l, n)
			ids := Of(l, n)
			for i := range ids {
				ids[i] = -99
			}
			_ = append(ids, -98)
		}
		for _, b := range l {
			found, _ := Find(l, b.ID)
			found.ID, found.Addr, found.Size, found.High = -97, -97, -97, !found.High
		}
		if !slices.Equal(whole, kept) {
			t.Fatalf("%v\nwas %v", whole, kept)
		}
	}
}

// TestWhatWasAnsweredStays holds P0: no later call, and nothing done with a list or with another answer, changes it.
func TestWhatWasAnsweredStays(t *testing.T) {
	l := directory(16)
	for i := range l {
		l[i].Addr = i % 3
	}
	before := slices.Clone(l)
	answers, want := [][]int{}, [][]int{}
	for addr := range 3 {
		for range 2 {
			answers = append(answers, Of(l, addr))
			want = append(want, plainOf(l, addr))
		}
	}
	found, _ := Find(l, l[4].ID)
	bytes := []byte(ramp(50, 1, 1))
	value := string(bytes)
	first, last := Cut(value, 0), Cut(value, 3)
	for i := range l {
		l[i] = api.Block{ID: -i, Addr: -i, Size: -i, High: true}
	}
	for i := range bytes {
		bytes[i] = 0
	}
	Check(l)
	Of(l, 0)
	Cut(string(bytes), 0)
	for i, ids := range answers {
		if !slices.Equal(ids, want[i]) {
			t.Errorf("answer %d: %v, want %v", i, ids, want[i])
		}
		for k := range ids {
			ids[k] = 1000 + i
		}
		answers[i] = append(ids, 2000+i)
	}
	for i, ids := range answers {
		n := len(ids) - 1
		if n != len(want[i]) || ids[n] != 2000+i || slices.ContainsFunc(ids[:n], func(id int) bool { return id != 1000+i }) {
			t.Errorf("answer %d shares what it has with another: %v", i, ids)
		}
	}
	if found != before[4] || first != ramp(16, 1, 1) || last != ramp(2, 49, 1) {
		t.Errorf("%v, %q, %q", found, first, last)
	}
}
