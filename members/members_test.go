package members

import (
	"math"
	"slices"
	"strconv"
	"testing"

	"fugleman/api"
)

const all = api.Set(math.MaxUint32)

// noAddresses are numbers that are no addresses, many of them with an address in their lowest bits.
func noAddresses() []int {
	return []int{
		-1, -2, -5, -9, -27, -31, -32, -33, -63, -64, -65, -255, -256, -257, -1 << 31, -1<<31 - 1, -1<<32 + 5, -1 << 32, -1<<32 - 1,
		math.MinInt + 9, math.MinInt + 5, math.MinInt + 1, math.MinInt,
		32, 33, 34, 37, 41, 63, 64, 65, 127, 128, 255, 256, 261, 65536, 1<<31 - 1, 1 << 31, 1<<31 + 5, 1<<32 - 1, 1 << 32, 1<<32 + 5,
		math.MaxInt - 32, math.MaxInt - 31, math.MaxInt - 1, math.MaxInt,
	}
}

// numbers are all addresses, and noAddresses.
func numbers() []int {
	list := noAddresses()
	for a := range 32 {
		list = append(list, a)
	}
	return list
}

// fewNumbers are some addresses and some numbers that are none.
func fewNumbers() []int {
	return []int{math.MinInt, -1 << 32, -32, -2, -1, 0, 1, 2, 8, 9, 15, 16, 17, 29, 30, 31, 32, 33, 64, 1<<32 + 9, math.MaxInt}
}

func address(a int) bool {
	return 0 <= a && a <= 31
}

// setOf adds one power of 2 for each address, so an address may not come twice.
func setOf(addresses ...int) api.Set {
	sum := api.Set(0)
	for _, a := range addresses {
		sum += 1 << a
	}
	return sum
}

// fewSets are one or some of each sort.
func fewSets() []api.Set {
	return []api.Set{
		0, all, setOf(0), setOf(9), setOf(31), setOf(0, 31), setOf(0, 1), setOf(30, 31), setOf(15, 16), setOf(2, 5, 9),
		all &^ 1, all &^ (1 << 31), all &^ (1 << 9), 0x55555555, 0xAAAAAAAA, 0x0000FFFF, 0xFFFF0000, 0x8000_0201, 0x12345678,
	}
}

// sets are fewSets, all of one address and of two and of all but one, all runs without a hole, and others.
func sets() []api.Set {
	list := fewSets()
	for a := range 32 {
		list = append(list, setOf(a), all-setOf(a))
		for b := range a {
			list = append(list, setOf(b, a))
		}
		run := api.Set(0)
		for step := range 31 {
			run += setOf((a + step) % 32)
			list = append(list, run)
		}
	}
	other := uint32(1)
	for range 300 {
		other = other*1664525 + 1013904223
		list = append(list, api.Set(other), api.Set(other&(other>>7)&(other<<11)))
	}
	return list
}

// The plain ones below go by the words of the chapter, one address at a time.

func plainHas(s api.Set, a int) bool {
	return address(a) && s>>a%2 == 1
}

// plainWalk tells the first address of s behind a, in so many steps of that width at the most.
func plainWalk(s api.Set, a, width, steps int) (int, bool) {
	if !address(a) {
		return 0, false
	}
	at := a
	for range steps {
		at += width
		switch at {
		case 32:
			at = 0
		case -1:
			at = 31
		}
		if plainHas(s, at) {
			return at, true
		}
	}
	return 0, false
}

func plainBetween(a, b int) []int {
	list := []int{}
	if !address(a) || !address(b) {
		return list
	}
	for at := (a + 1) % 32; at != a && at != b; at = (at + 1) % 32 {
		list = append(list, at)
	}
	return list
}

func plainPass(s api.Set, a, b int) api.Set {
	if !address(a) || !address(b) {
		return s
	}
	list := []int{}
	for at := range 32 {
		if at == a || at == b || plainHas(s, at) && !slices.Contains(plainBetween(a, b), at) {
			list = append(list, at)
		}
	}
	return setOf(list...)
}

func plainGap(s api.Set, a, top int) api.Set {
	list := []int{}
	for at := (a + 1) % 32; address(a) && at != a && !plainHas(s, at); at = (at + 1) % 32 {
		if at <= top {
			list = append(list, at)
		}
	}
	return setOf(list...)
}

func plainText(list []int) string {
	text := "{"
	for i, a := range list {
		if i > 0 {
			text += ","
		}
		text += strconv.Itoa(a)
	}
	return text + "}"
}

func plainList(s api.Set) []int {
	list := []int{}
	for a := range 32 {
		if plainHas(s, a) {
			list = append(list, a)
		}
	}
	return list
}

// way is one of Next, Prev and Turn.
type way struct {
	name  string
	call  func(s api.Set, a int) (int, bool)
	width int
	steps int
}

func ways() []way {
	return []way{{"Next", Next, 1, 31}, {"Prev", Prev, -1, 31}, {"Turn", Turn, 1, 32}}
}

func TestHas(t *testing.T) {
	s := setOf(0, 2, 5, 9, 31)
	for _, c := range []struct {
		s    api.Set
		a    int
		want bool
	}{
		{s, 0, true}, {s, 2, true}, {s, 5, true}, {s, 9, true}, {s, 31, true},
		{s, 1, false}, {s, 3, false}, {s, 4, false}, {s, 6, false}, {s, 30, false},
		{s, 32, false}, {s, 34, false}, {s, -1, false}, {s, -32, false}, {s, -27, false}, {s, 1<<32 + 5, false},
		{0, 0, false}, {0, 31, false}, {0, -1, false}, {all, 0, true}, {all, 31, true}, {all, 32, false}, {all, -1, false},
		{all, math.MinInt, false}, {all, math.MaxInt, false}, {1, 0, true}, {1, 32, false}, {1 << 31, 31, true}, {1 << 31, -1, false},
	} {
		if got := Has(c.s, c.a); got != c.want {
			t.Errorf("Has(%032b, %d) = %v", c.s, c.a, got)
		}
	}
}

func TestHasWithAndWithoutOfAllAddresses(t *testing.T) {
	for _, s := range sets() {
		for a := range 32 {
			had := plainHas(s, a)
			with, without := s, s
			if had {
				without = s - setOf(a)
			} else {
				with = s + setOf(a)
			}
			if got := Has(s, a); got != had {
				t.Fatalf("Has(%032b, %d) = %v", s, a, got)
			}
			if got := With(s, a); got != with {
				t.Fatalf("With(%032b, %d) = %032b", s, a, got)
			}
			if got := Without(s, a); got != without {
				t.Fatalf("Without(%032b, %d) = %032b", s, a, got)
			}
		}
	}
}

func TestHasWithAndWithoutOfNoAddresses(t *testing.T) {
	for _, s := range sets() {
		for _, a := range noAddresses() {
			if Has(s, a) {
				t.Fatalf("Has(%032b, %d)", s, a)
			}
			if got := With(s, a); got != s {
				t.Fatalf("With(%032b, %d) = %032b", s, a, got)
			}
			if got := Without(s, a); got != s {
				t.Fatalf("Without(%032b, %d) = %032b", s, a, got)
			}
		}
	}
}

// TestTheBitOfAnAddress holds what api says: bit a is address a.
func TestTheBitOfAnAddress(t *testing.T) {
	for a, want := range map[int]api.Set{0: 1, 1: 2, 2: 4, 7: 0x80, 8: 0x100, 15: 0x8000, 16: 0x10000, 30: 0x40000000, 31: 0x80000000} {
		if got := With(0, a); got != want {
			t.Errorf("With(0, %d) = %x, want %x", a, got, want)
		}
		if got := Without(all, a); got != 0xFFFFFFFF-want {
			t.Errorf("Without of all, %d = %x", a, got)
		}
		if !Has(want, a) || Has(0xFFFFFFFF-want, a) {
			t.Errorf("Has of %x and of the others, %d", want, a)
		}
	}
}

func TestLenListAndText(t *testing.T) {
	for _, c := range []struct {
		s    api.Set
		list []int
		text string
	}{
		{0, []int{}, "{}"},
		{setOf(0), []int{0}, "{0}"},
		{setOf(9), []int{9}, "{9}"},
		{setOf(10), []int{10}, "{10}"},
		{setOf(31), []int{31}, "{31}"},
		{setOf(0, 31), []int{0, 31}, "{0,31}"},
		{setOf(9, 2, 5), []int{2, 5, 9}, "{2,5,9}"},
		{setOf(30, 3, 10, 1, 2, 20), []int{1, 2, 3, 10, 20, 30}, "{1,2,3,10,20,30}"},
		{all, plainList(all), "{0,1,2,3,4,5,6,7,8,9,10,11,12,13,14,15,16,17,18,19,20,21,22,23,24,25,26,27,28,29,30,31}"},
	} {
		if got := Len(c.s); got != len(c.list) {
			t.Errorf("Len(%032b) = %d", c.s, got)
		}
		if got := List(c.s); !slices.Equal(got, c.list) {
			t.Errorf("List(%032b) = %v", c.s, got)
		}
		if got := Text(c.s); got != c.text {
			t.Errorf("Text(%032b) = %q", c.s, got)
		}
	}
	if n := Len(all); n != 32 {
		t.Errorf("Len of all: %d", n)
	}
}

func TestLenListAndTextOfManySets(t *testing.T) {
	for _, s := range sets() {
		want := plainList(s)
		if got := List(s); !slices.Equal(got, want) {
			t.Fatalf("List(%032b) = %v", s, got)
		}
		if got := Len(s); got != len(want) {
			t.Fatalf("Len(%032b) = %d", s, got)
		}
		if got := Text(s); got != plainText(want) {
			t.Fatalf("Text(%032b) = %q", s, got)
		}
	}
}

// TestAListIsTheCallersOwn holds R4.
func TestAListIsTheCallersOwn(t *testing.T) {
	s := setOf(2, 5, 9)
	first, second := List(s), List(s)
	for i := range first {
		first[i] = 30
	}
	first = append(first, 31)
	for i, list := range [][]int{second, List(s)} {
		if !slices.Equal(list, []int{2, 5, 9}) {
			t.Errorf("list %d, when another one was written to: %v", i, list)
		}
	}
}

// TestNextPrevAndTurn tells 99 where there is none.
func TestNextPrevAndTurn(t *testing.T) {
	const none = 99
	s, ends := setOf(2, 5, 9), setOf(0, 31)
	for _, c := range []struct {
		name             string
		s                api.Set
		a                int
		next, prev, turn int
	}{
		{"in it", s, 5, 9, 2, 9},
		{"the greatest", s, 9, 2, 5, 2},
		{"the least", s, 2, 5, 9, 5},
		{"not in it", s, 6, 9, 5, 9},
		{"beside one below", s, 3, 5, 2, 5},
		{"beside one above", s, 4, 5, 2, 5},
		{"below all", s, 0, 2, 9, 2},
		{"above all", s, 10, 2, 9, 2},
		{"at the top", s, 31, 2, 9, 2},
		{"0, round", ends, 0, 31, 31, 31},
		{"31, round", ends, 31, 0, 0, 0},
		{"between the ends", ends, 15, 31, 0, 31},
		{"behind 31 comes 0", all, 31, 0, 30, 0},
		{"below 0 comes 31", all, 0, 1, 31, 1},
		{"of all", all, 16, 17, 15, 17},
		{"alone", setOf(9), 9, none, none, 9},
		{"0 alone", setOf(0), 0, none, none, 0},
		{"31 alone", setOf(31), 31, none, none, 31},
		{"one other, below", setOf(9), 10, 9, 9, 9},
		{"one other, above", setOf(9), 8, 9, 9, 9},
		{"0 alone, of 31", setOf(0), 31, 0, 0, 0},
		{"31 alone, of 0", setOf(31), 0, 31, 31, 31},
		{"nobody", 0, 5, none, none, none},
		{"nobody, of 0", 0, 0, none, none, none},
		{"nobody, of 31", 0, 31, none, none, none},
		{"-1", s, -1, none, none, none},
		{"32", s, 32, none, none, none},
		{"a multiple of 32 above one of it", s, 37, none, none, none},
		{"a multiple of 32 below one of it", s, -27, none, none, none},
		{"the least number", all, math.MinInt, none, none, none},
		{"the greatest number", all, math.MaxInt, none, none, none},
		{"-1, of the top", setOf(31), -1, none, none, none},
		{"32, of 0", setOf(0), 32, none, none, none},
		{"-1, of nobody", 0, -1, none, none, none},
	} {
		want := []int{c.next, c.prev, c.turn}
		for i, w := range ways() {
			got, ok := w.call(c.s, c.a)
			if want[i] == none {
				if got != 0 || ok {
					t.Errorf("%s: %s(%v, %d) = %d, %v, want none", c.name, w.name, plainList(c.s), c.a, got, ok)
				}
			} else if got != want[i] || !ok {
				t.Errorf("%s: %s(%v, %d) = %d, %v, want %d", c.name, w.name, plainList(c.s), c.a, got, ok, want[i])
			}
		}
	}
}

func TestNextPrevAndTurnOfManySets(t *testing.T) {
	for _, s := range sets() {
		for _, a := range numbers() {
			for _, w := range ways() {
				want, wantOK := plainWalk(s, a, w.width, w.steps)
				if got, ok := w.call(s, a); got != want || ok != wantOK {
					t.Fatalf("%s(%v, %d) = %d, %v, want %d, %v", w.name, plainList(s), a, got, ok, want, wantOK)
				}
			}
		}
	}
}

func TestBetween(t *testing.T) {
	for _, c := range []struct {
		name string
		a, b int
		want api.Set
	}{
		{"some", 5, 9, setOf(6, 7, 8)},
		{"one", 5, 7, setOf(6)},
		{"beside one another", 5, 6, 0},
		{"round", 30, 2, setOf(31, 0, 1)},
		{"round, down to 0", 30, 0, setOf(31)},
		{"round, up from 31", 31, 1, setOf(0)},
		{"beside one another, round", 31, 0, 0},
		{"from end to end", 0, 31, all - setOf(0, 31)},
		{"nearly all, round", 6, 5, all - setOf(5, 6)},
		{"nearly all, round from 1", 1, 0, all - setOf(0, 1)},
		{"the same", 7, 7, all - setOf(7)},
		{"0 and 0", 0, 0, all - setOf(0)},
		{"31 and 31", 31, 31, all - setOf(31)},
		{"to -1", 5, -1, 0},
		{"from -1", -1, 5, 0},
		{"to 32", 5, 32, 0},
		{"from 32", 32, 5, 0},
		{"-1 and -1", -1, -1, 0},
		{"32 and 32", 32, 32, 0},
		{"from the least number to the greatest one", math.MinInt, math.MaxInt, 0},
		{"from the greatest number to the least one", math.MaxInt, math.MinInt, 0},
		{"to the least number", 31, math.MinInt, 0},
		{"from the greatest number", math.MaxInt, 31, 0},
	} {
		if got := Between(c.a, c.b); got != c.want {
			t.Errorf("%s: Between(%d, %d) = %v, want %v", c.name, c.a, c.b, plainList(got), plainList(c.want))
		}
	}
}

func TestBetweenOfAllNumbers(t *testing.T) {
	for _, a := range numbers() {
		for _, b := range numbers() {
			if got, want := Between(a, b), plainBetween(a, b); got != setOf(want...) {
				t.Fatalf("Between(%d, %d) = %v, want %v", a, b, plainList(got), want)
			}
		}
	}
}

func TestPass(t *testing.T) {
	s := setOf(2, 5, 9)
	for _, c := range []struct {
		name string
		s    api.Set
		a, b int
		want api.Set
	}{
		{"to the next", s, 2, 5, s},
		{"to the next, round", s, 9, 2, s},
		{"over one", s, 2, 9, setOf(2, 9)},
		{"over one, round", s, 9, 5, setOf(5, 9)},
		{"to a new one", s, 5, 6, setOf(2, 5, 6, 9)},
		{"to a new one, over one", s, 2, 7, setOf(2, 7, 9)},
		{"to a new one, round", s, 9, 0, setOf(0, 2, 5, 9)},
		{"to a new one, round and over one", s, 9, 3, setOf(3, 5, 9)},
		{"from a new one", s, 3, 5, setOf(2, 3, 5, 9)},
		{"from a new one, over one", s, 3, 9, setOf(2, 3, 9)},
		{"from a new one to a new one", s, 30, 1, setOf(1, 2, 5, 9, 30)},
		{"to itself", s, 5, 5, setOf(5)},
		{"to itself, and it is new", s, 7, 7, setOf(7)},
		{"to itself, 0", all, 0, 0, setOf(0)},
		{"to itself, 31", all, 31, 31, setOf(31)},
		{"of nobody", 0, 4, 8, setOf(4, 8)},
		{"of nobody, to itself", 0, 4, 4, setOf(4)},
		{"of all, to the next", all, 31, 0, all},
		{"of all, from end to end", all, 0, 31, setOf(0, 31)},
		{"of all, over one", all, 31, 1, all - setOf(0)},
		{"from -1", s, -1, 5, s},
		{"to -1", s, 5, -1, s},
		{"from 32", s, 32, 5, s},
		{"to 32", s, 5, 32, s},
		{"neither", s, -1, -1, s},
		{"neither, one far above the other", s, math.MinInt, math.MaxInt, s},
		{"to a multiple of 32 above one of it", s, 2, 41, s},
		{"no addresses, of nobody", 0, 32, 32, 0},
		{"no addresses, of all", all, math.MaxInt, math.MinInt, all},
	} {
		if got := Pass(c.s, c.a, c.b); got != c.want {
			t.Errorf("%s: Pass(%v, %d, %d) = %v, want %v", c.name, plainList(c.s), c.a, c.b, plainList(got), plainList(c.want))
		}
	}
}

// withPairs hands over few sets with all pairs of numbers, and many sets with fewer ones.
func withPairs(take func(s api.Set, a, b int)) {
	pairs := func(s api.Set, list []int) {
		for _, a := range list {
			for _, b := range list {
				take(s, a, b)
			}
		}
	}
	for _, s := range fewSets() {
		pairs(s, numbers())
	}
	for _, s := range sets() {
		pairs(s, fewNumbers())
	}
}

func TestPassOfManySets(t *testing.T) {
	withPairs(func(s api.Set, a, b int) {
		if got, want := Pass(s, a, b), plainPass(s, a, b); got != want {
			t.Fatalf("Pass(%v, %d, %d) = %v, want %v", plainList(s), a, b, plainList(got), plainList(want))
		}
	})
}

func TestGap(t *testing.T) {
	s := setOf(2, 5, 9)
	for _, c := range []struct {
		name   string
		s      api.Set
		a, top int
		want   api.Set
	}{
		{"the example", s, 5, 10, setOf(6, 7, 8)},
		{"the example, round", s, 9, 10, setOf(10, 0, 1)},
		{"round, up to 31", s, 9, 31, all - setOf(2, 3, 4, 5, 6, 7, 8, 9)},
		{"a top at the address, round", s, 9, 9, setOf(0, 1)},
		{"a top below the address, above the next, round", s, 9, 4, setOf(0, 1)},
		{"a top at the next, round", s, 9, 2, setOf(0, 1)},
		{"a top below the next, round", s, 9, 1, setOf(0, 1)},
		{"a top of 0, round", s, 9, 0, setOf(0)},
		{"a top below 0, round", s, 9, -1, 0},
		{"a top below the address", s, 5, 4, 0},
		{"a top at the address", s, 5, 5, 0},
		{"a top above the address", s, 5, 6, setOf(6)},
		{"a top below the next", s, 5, 7, setOf(6, 7)},
		{"a top beside the next", s, 5, 8, setOf(6, 7, 8)},
		{"a top at the next", s, 5, 9, setOf(6, 7, 8)},
		{"a top of 0", s, 5, 0, 0},
		{"a top below 0", s, 5, -1, 0},
		{"a top of 31", s, 5, 31, setOf(6, 7, 8)},
		{"a top of 32", s, 5, 32, setOf(6, 7, 8)},
		{"the greatest top", s, 5, math.MaxInt, setOf(6, 7, 8)},
		{"the least top", s, 5, math.MinInt, 0},
		{"an address that isn't in it", s, 6, 31, setOf(7, 8)},
		{"an address that isn't in it, beside the next", s, 4, 31, 0},
		{"an address that isn't in it, above all", s, 30, 31, setOf(31, 0, 1)},
		{"an address that isn't in it, with a top of four bytes and more", s, 30, 1<<32 + 1, setOf(31, 0, 1)},
		{"the next beside it", setOf(4, 5), 4, 31, 0},
		{"the next beside it, round", setOf(0, 31), 31, 31, 0},
		{"the others are above", setOf(0, 31), 0, 31, all - setOf(0, 31)},
		{"alone", setOf(3), 3, 5, setOf(0, 1, 2, 4, 5)},
		{"alone, a top below it", setOf(3), 3, 2, setOf(0, 1, 2)},
		{"alone, a top at it", setOf(3), 3, 3, setOf(0, 1, 2)},
		{"alone, a top of 0", setOf(3), 3, 0, setOf(0)},
		{"alone, a top below 0", setOf(3), 3, -1, 0},
		{"alone, the least top", setOf(3), 3, math.MinInt, 0},
		{"alone, a top of 31", setOf(3), 3, 31, all - setOf(3)},
		{"alone, a top of 32", setOf(3), 3, 32, all - setOf(3)},
		{"alone, the greatest top", setOf(3), 3, math.MaxInt, all - setOf(3)},
		{"0 alone, a top of 0", setOf(0), 0, 0, 0},
		{"0 alone", setOf(0), 0, 2, setOf(1, 2)},
		{"31 alone", setOf(31), 31, 2, setOf(0, 1, 2)},
		{"31 alone, a top of 31", setOf(31), 31, 31, all - setOf(31)},
		{"one other alone", setOf(3), 1, 31, setOf(2)},
		{"nobody", 0, 3, 5, setOf(0, 1, 2, 4, 5)},
		{"nobody, a top of 99", 0, 4, 99, all - setOf(4)},
		{"all", all, 7, 31, 0},
		{"all but one", all - setOf(8), 7, 31, setOf(8)},
		{"all but one, a top below it", all - setOf(8), 7, 7, 0},
		{"-1", s, -1, 31, 0},
		{"32", s, 32, 31, 0},
		{"a multiple of 32 above one of it", s, 37, 31, 0},
		{"-1, of nobody", 0, -1, 31, 0},
		{"32, of nobody", 0, 32, 31, 0},
		{"the greatest number, of nobody", 0, math.MaxInt, math.MaxInt, 0},
		{"the least number, of nobody", 0, math.MinInt, math.MaxInt, 0},
	} {
		if got := Gap(c.s, c.a, c.top); got != c.want {
			t.Errorf("%s: Gap(%v, %d, %d) = %v, want %v", c.name, plainList(c.s), c.a, c.top, plainList(got), plainList(c.want))
		}
	}
}

func TestGapOfManySets(t *testing.T) {
	withPairs(func(s api.Set, a, top int) {
		if got, want := Gap(s, a, top), plainGap(s, a, top); got != want {
			t.Fatalf("Gap(%v, %d, %d) = %v, want %v", plainList(s), a, top, plainList(got), plainList(want))
		}
	})
}

// goRound tells by whom one comes who goes on from address to address, from being the first one, and whether one comes back to it.
func goRound(call func(s api.Set, a int) (int, bool), s api.Set, from int) ([]int, bool) {
	seen := []int{}
	at := from
	for range 33 {
		seen = append(seen, at)
		next, ok := call(s, at)
		if !ok {
			return seen, false
		}
		if next == from {
			return seen, true
		}
		at = next
	}
	return seen, false
}

// TestWhoGoesFromNextToNextComesByAll holds P5.2; one alone has no next, and is all by itself.
func TestWhoGoesFromNextToNextComesByAll(t *testing.T) {
	for _, s := range sets() {
		list := plainList(s)
		for i, from := range list {
			want := slices.Concat(list[i:], list[:i])
			if seen, back := goRound(Next, s, from); !slices.Equal(seen, want) || back != (len(list) > 1) {
				t.Fatalf("by Next through %v from %d: %v, %v", list, from, seen, back)
			}
			if seen, back := goRound(Turn, s, from); !slices.Equal(seen, want) || !back {
				t.Fatalf("by Turn through %v from %d: %v, %v", list, from, seen, back)
			}
			slices.Reverse(want[1:])
			if seen, back := goRound(Prev, s, from); !slices.Equal(seen, want) || back != (len(list) > 1) {
				t.Fatalf("by Prev through %v from %d: %v, %v", list, from, seen, back)
			}
		}
	}
}

// TestWhoComesFromBesideComesByAll sets out from addresses that aren't in the set, and never comes back to them.
func TestWhoComesFromBesideComesByAll(t *testing.T) {
	for _, s := range sets() {
		list := plainList(s)
		for from := range 32 {
			if len(list) < 2 || Has(s, from) {
				continue
			}
			first, ok := Next(s, from)
			if !ok || !slices.Contains(list, first) {
				t.Fatalf("Next(%v, %d) = %d, %v", list, from, first, ok)
			}
			seen, back := goRound(Next, s, first)
			slices.Sort(seen)
			if !slices.Equal(seen, list) || !back {
				t.Fatalf("through %v from %d, that isn't in it: %v, %v", list, from, seen, back)
			}
		}
	}
}

// TestEveryCallEnds holds P0: every call, at all chosen arguments, answers, and the same once more.
func TestEveryCallEnds(t *testing.T) {
	for _, s := range fewSets() {
		if Len(s) != Len(s) || Text(s) != Text(s) || !slices.Equal(List(s), List(s)) {
			t.Fatalf("of %032b two answers", s)
		}
		for _, a := range numbers() {
			if Has(s, a) != Has(s, a) || With(s, a) != With(s, a) || Without(s, a) != Without(s, a) {
				t.Fatalf("of %032b and %d two answers", s, a)
			}
			for _, w := range ways() {
				first, firstOK := w.call(s, a)
				second, secondOK := w.call(s, a)
				if first != second || firstOK != secondOK || !address(first) || !firstOK && first != 0 {
					t.Fatalf("%s of %032b and %d: %d, %v and %d, %v", w.name, s, a, first, firstOK, second, secondOK)
				}
			}
			for _, b := range numbers() {
				if Between(a, b) != Between(a, b) || Pass(s, a, b) != Pass(s, a, b) || Gap(s, a, b) != Gap(s, a, b) {
					t.Fatalf("of %032b, %d and %d two answers", s, a, b)
				}
			}
		}
	}
}
