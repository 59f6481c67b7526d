package queue

import (
	"errors"
	"math"
	"runtime"
	"slices"
	"strconv"
	"testing"
	"weak"

	"fugleman/api"
)

// bothClasses are high and low.
func bothClasses() []bool {
	return []bool{true, false}
}

// look is all that the calls tell of a queue of texts and leave as it is.
type look struct {
	lens  [2]int
	room  int
	heads [2]string
	some  [2]bool
}

func lookAt(q *Queue[string]) look {
	l := look{room: q.Room()}
	for i, high := range bothClasses() {
		l.lens[i] = q.Len(high)
		l.heads[i], l.some[i] = q.Peek(high)
	}
	return l
}

// lookOf is what a queue with so many places looks like in which those wait, and no others.
func lookOf(places int, high, low []string) look {
	l := look{room: places - len(high) - len(low)}
	for i, list := range [][]string{high, low} {
		l.lens[i] = len(list)
		if len(list) > 0 {
			l.heads[i], l.some[i] = list[0], true
		}
	}
	return l
}

// has tells what is wrong, if in q, with so many places, others wait than those. It takes them all, and puts them there anew.
func has(t *testing.T, what string, q *Queue[string], places int, high, low []string) {
	t.Helper()
	if got, want := lookAt(q), lookOf(places, high, low); got != want {
		t.Errorf("%s:\n got %+v\nwant %+v", what, got, want)
	}
	for i, list := range [][]string{high, low} {
		class := bothClasses()[i]
		got := []string{}
		for range q.Len(class) {
			x, ok := q.Take(class)
			if !ok {
				t.Fatalf("%s: nothing to take, of %q", what, list)
			}
			got = append(got, x)
		}
		if !slices.Equal(got, list) {
			t.Errorf("%s: of class %v wait %q, want %q", what, class, got, list)
		}
		for _, x := range got {
			put(t, what, q, x, class, api.OK)
		}
	}
}

func put(t *testing.T, what string, q *Queue[string], x string, high bool, want api.Errno) {
	t.Helper()
	if e := q.Put(x, high); e != want {
		t.Errorf("%s: Put(%q, %v) = %d, want %d", what, x, high, e, want)
	}
}

func take(t *testing.T, what string, q *Queue[string], high bool, want string, wantOK bool) {
	t.Helper()
	if x, ok := q.Take(high); x != want || ok != wantOK {
		t.Errorf("%s: Take(%v) = %q, %v, want %q, %v", what, high, x, ok, want, wantOK)
	}
}

func peek(t *testing.T, what string, q *Queue[string], high bool, want string, wantOK bool) {
	t.Helper()
	if x, ok := q.Peek(high); x != want || ok != wantOK {
		t.Errorf("%s: Peek(%v) = %q, %v, want %q, %v", what, high, x, ok, want, wantOK)
	}
}

func fault(t *testing.T, what string, q *Queue[string], want bool) {
	t.Helper()
	if got := q.Fault(); got != want {
		t.Errorf("%s: Fault = %v", what, got)
	}
}

// with tells a queue with so many places in which those wait.
func with(t *testing.T, places int, high, low []string) *Queue[string] {
	t.Helper()
	q := New[string](places)
	for i, list := range [][]string{high, low} {
		for _, x := range list {
			put(t, "with", q, x, bothClasses()[i], api.OK)
		}
	}
	return q
}

// names are n texts, no two alike.
func names(first string, n int) []string {
	list := []string{}
	for i := range n {
		list = append(list, first+strconv.Itoa(i))
	}
	return list
}

// placesFor are numbers of places asked for, and those that there are then.
func placesFor() [][2]int {
	return [][2]int{
		{math.MinInt, 0}, {math.MinInt + 1, 0}, {math.MinInt + 5, 0}, {-1<<32 + 5, 0}, {-1 << 32, 0}, {-1 << 31, 0}, {-65536 + 5, 0}, {-256, 0}, {-65, 0}, {-64, 0}, {-63, 0}, {-3, 0}, {-2, 0}, {-1, 0},
		{0, 0}, {1, 1}, {2, 2}, {3, 3}, {15, 15}, {16, 16}, {17, 17}, {31, 31}, {32, 32}, {33, 33}, {62, 62}, {63, 63}, {64, 64},
		{65, 64}, {66, 64}, {100, 64}, {128, 64}, {255, 64}, {256, 64}, {257, 64}, {1000, 64}, {65536, 64}, {65541, 64}, {1<<31 - 1, 64}, {1 << 31, 64}, {1 << 32, 64}, {1<<32 + 5, 64}, {1 << 62, 64}, {math.MaxInt - 5, 64}, {math.MaxInt - 1, 64}, {math.MaxInt, 64},
	}
}

func TestTheExample(t *testing.T) {
	q := New[string](1)
	put(t, "the first", q, "a", true, api.OK)
	put(t, "the second", q, "b", false, api.ErrFull)
	fault(t, "the first time", q, true)
	fault(t, "the second time", q, false)
}

func TestNew(t *testing.T) {
	for _, c := range placesFor() {
		q := New[string](c[0])
		if q == nil {
			t.Fatalf("New(%d): nil", c[0])
		}
		has(t, "New("+strconv.Itoa(c[0])+")", q, c[1], nil, nil)
		fault(t, "New("+strconv.Itoa(c[0])+")", q, false)
		for _, high := range bothClasses() {
			take(t, "New("+strconv.Itoa(c[0])+")", q, high, "", false)
		}
	}
	for places := -300; places <= 300; places++ {
		want := places
		if places < 0 {
			want = 0
		}
		if places > 64 {
			want = 64
		}
		if got := New[int](places).Room(); got != want {
			t.Errorf("New(%d): Room = %d", places, got)
		}
	}
}

// TestAsManyAsThereArePlaces puts more than there are places, and takes them.
func TestAsManyAsThereArePlaces(t *testing.T) {
	for _, c := range placesFor() {
		for _, high := range bothClasses() {
			what := "New(" + strconv.Itoa(c[0]) + ")"
			q := New[string](c[0])
			list := names("x", 70)
			for i, x := range list {
				want := api.OK
				if i >= c[1] {
					want = api.ErrFull
				}
				put(t, what, q, x, high, want)
			}
			fault(t, what, q, true)
			if q.Len(high) != c[1] || q.Len(!high) != 0 || q.Room() != 0 {
				t.Errorf("%s: Len %d and %d, Room %d", what, q.Len(high), q.Len(!high), q.Room())
			}
			for i, x := range list {
				if i < c[1] {
					take(t, what, q, high, x, true)
				} else {
					take(t, what, q, high, "", false)
				}
			}
			has(t, what, q, c[1], nil, nil)
		}
	}
}

// fills are orders in which things of both classes come: how many come of high, and is the ith of n high?
func fills(n int) [][]bool {
	list := [][]bool{}
	for highs := range n + 1 {
		first, last, mixed := []bool{}, []bool{}, []bool{}
		for i := range n {
			first = append(first, i < highs)
			last = append(last, i >= n-highs)
			// As many of them as are due by then, spread evenly.
			mixed = append(mixed, (i+1)*highs/n > i*highs/n)
		}
		list = append(list, first, last, mixed)
	}
	return list
}

// TestPutOfBothClasses fills queues up to the last place in many orders, by one class and by both, and looks at each Put: into an empty queue, into the last place, and into a full one.
func TestPutOfBothClasses(t *testing.T) {
	for _, places := range []int{1, 2, 3, 16, 63, 64} {
		for _, order := range fills(places) {
			what := "of " + strconv.Itoa(places) + " places"
			q := New[string](places)
			waiting := map[bool][]string{}
			for i, high := range order {
				x := strconv.Itoa(i)
				put(t, what, q, x, high, api.OK)
				waiting[high] = append(waiting[high], x)
				if got, want := lookAt(q), lookOf(places, waiting[true], waiting[false]); got != want {
					t.Fatalf("%s, behind %d:\n got %+v\nwant %+v", what, i+1, got, want)
				}
			}
			fault(t, what+", full", q, false)
			for _, high := range bothClasses() {
				put(t, what+", full", q, "one more", high, api.ErrFull)
				if got, want := lookAt(q), lookOf(places, waiting[true], waiting[false]); got != want {
					t.Fatalf("%s, behind what was dropped:\n got %+v\nwant %+v", what, got, want)
				}
				fault(t, what+", behind what was dropped", q, true)
			}
			has(t, what, q, places, waiting[true], waiting[false])
			fault(t, what+", full again", q, false)
		}
	}
}

// TestWhatIsDroppedChangesNothingButTheFault: it doesn't come behind those that wait when there is a place again, either.
func TestWhatIsDroppedChangesNothingButTheFault(t *testing.T) {
	for _, c := range []struct {
		name      string
		high, low []string
	}{
		{"no places", nil, nil},
		{"high alone", []string{"a", "b", "c"}, nil},
		{"low alone", nil, []string{"a", "b", "c"}},
		{"both", []string{"a", "c"}, []string{"b"}},
	} {
		places := len(c.high) + len(c.low)
		for _, high := range bothClasses() {
			q := with(t, places, c.high, c.low)
			for range 3 {
				put(t, c.name, q, "dropped", high, api.ErrFull)
				has(t, c.name, q, places, c.high, c.low)
			}
			fault(t, c.name, q, true)
			fault(t, c.name+", again", q, false)
			for i, list := range [][]string{c.high, c.low} {
				for _, x := range list {
					take(t, c.name, q, bothClasses()[i], x, true)
				}
			}
			has(t, c.name+", empty", q, places, nil, nil)
			fault(t, c.name+", empty", q, false)
		}
	}
}

func TestTakeAndPeek(t *testing.T) {
	for _, c := range []struct {
		name      string
		high, low []string
	}{
		{"of an empty queue", nil, nil},
		{"one high", []string{"a"}, nil},
		{"one low", nil, []string{"a"}},
		{"one of each", []string{"a"}, []string{"b"}},
		{"some high", []string{"a", "b", "c"}, nil},
		{"some low", nil, []string{"a", "b", "c"}},
		{"some of both", []string{"a", "b", "c"}, []string{"d", "e"}},
		{"equal ones", []string{"a", "a", "b", "a"}, []string{"a", "b", "b"}},
		{"texts without bytes", []string{"", "", "a"}, []string{"a", "", ""}},
		{"full of high", names("h", 64), nil},
		{"full of low", nil, names("l", 64)},
		{"full of both", names("h", 40), names("l", 24)},
	} {
		for i, list := range [][]string{c.high, c.low} {
			class := bothClasses()[i]
			q := with(t, 64, c.high, c.low)
			for k, x := range list {
				for range 3 {
					peek(t, c.name, q, class, x, true)
				}
				if q.Len(class) != len(list)-k {
					t.Errorf("%s: Len(%v) = %d behind Peek", c.name, class, q.Len(class))
				}
				take(t, c.name, q, class, x, true)
				if q.Len(class) != len(list)-k-1 {
					t.Errorf("%s: Len(%v) = %d behind Take", c.name, class, q.Len(class))
				}
			}
			for range 3 {
				peek(t, c.name+", none left", q, class, "", false)
				take(t, c.name+", none left", q, class, "", false)
			}
			left := [][]string{c.high, c.low}
			left[i] = nil
			has(t, c.name+", the other class", q, 64, left[0], left[1])
			fault(t, c.name, q, false)
		}
	}
}

// TestThereIsOneOfTheOtherClassAlone takes and peeks of a class of which none waits.
func TestThereIsOneOfTheOtherClassAlone(t *testing.T) {
	for _, class := range bothClasses() {
		for n := 1; n <= 64; n++ {
			q := New[string](64)
			for _, x := range names("x", n) {
				put(t, "the other class", q, x, !class, api.OK)
			}
			before := lookAt(q)
			take(t, "the other class", q, class, "", false)
			peek(t, "the other class", q, class, "", false)
			if lookAt(q) != before {
				t.Errorf("%d of the other class: %+v, want %+v", n, lookAt(q), before)
			}
			take(t, "the other class", q, !class, "x0", true)
		}
	}
}

// TestCallByCall follows Len, Room and the first of each class from call to call.
func TestCallByCall(t *testing.T) {
	q := New[string](3)
	for _, c := range []struct {
		name      string
		do        func()
		high, low []string
	}{
		{"New", func() {}, nil, nil},
		{"Put of low", func() { put(t, "1", q, "a", false, api.OK) }, nil, []string{"a"}},
		{"Put of high", func() { put(t, "2", q, "b", true, api.OK) }, []string{"b"}, []string{"a"}},
		{"Peek of both", func() { peek(t, "3", q, true, "b", true); peek(t, "3", q, false, "a", true) }, []string{"b"}, []string{"a"}},
		{"Put into the last place", func() { put(t, "4", q, "c", false, api.OK) }, []string{"b"}, []string{"a", "c"}},
		{"Put of high into a full one", func() { put(t, "5", q, "d", true, api.ErrFull) }, []string{"b"}, []string{"a", "c"}},
		{"Put of low into a full one", func() { put(t, "6", q, "e", false, api.ErrFull) }, []string{"b"}, []string{"a", "c"}},
		{"Fault", func() { fault(t, "7", q, true); fault(t, "7", q, false) }, []string{"b"}, []string{"a", "c"}},
		{"Take of low", func() { take(t, "8", q, false, "a", true) }, []string{"b"}, []string{"c"}},
		{"Put of high again", func() { put(t, "9", q, "f", true, api.OK) }, []string{"b", "f"}, []string{"c"}},
		{"Take of high", func() { take(t, "10", q, true, "b", true) }, []string{"f"}, []string{"c"}},
		{"Take of high again", func() { take(t, "11", q, true, "f", true) }, nil, []string{"c"}},
		{"Take of no high", func() { take(t, "12", q, true, "", false) }, nil, []string{"c"}},
		{"Put of low again", func() { put(t, "13", q, "g", false, api.OK); put(t, "13", q, "h", false, api.OK) }, nil, []string{"c", "g", "h"}},
		{"Put of high into one full of low", func() { put(t, "14", q, "i", true, api.ErrFull) }, nil, []string{"c", "g", "h"}},
		{"Clear", func() { q.Clear() }, nil, nil},
		{"Fault behind Clear", func() { fault(t, "16", q, false) }, nil, nil},
		{"Put behind Clear", func() { put(t, "17", q, "j", true, api.OK) }, []string{"j"}, nil},
		{"Take of no low", func() { take(t, "18", q, false, "", false) }, []string{"j"}, nil},
	} {
		c.do()
		if got, want := lookAt(q), lookOf(3, c.high, c.low); got != want {
			t.Errorf("%s:\n got %+v\nwant %+v", c.name, got, want)
		}
	}
	has(t, "at last", q, 3, []string{"j"}, nil)
}

func TestFault(t *testing.T) {
	for _, places := range []int{0, 1, 2, 64} {
		for _, high := range bothClasses() {
			what := strconv.Itoa(places) + " places"
			q := New[string](places)
			fault(t, what+", new", q, false)
			for _, x := range names("x", places) {
				put(t, what, q, x, high, api.OK)
				fault(t, what+", nothing dropped", q, false)
			}
			put(t, what, q, "d", high, api.ErrFull)
			fault(t, what+", one dropped", q, true)
			fault(t, what+", asked again", q, false)
			fault(t, what+", asked once more", q, false)
			for range 5 {
				put(t, what, q, "d", !high, api.ErrFull)
			}
			fault(t, what+", some dropped behind that", q, true)
			fault(t, what+", asked again behind that", q, false)
		}
	}
}

// TestTheFaultStaysTillItIsAskedFor, whatever is done between, but Clear.
func TestTheFaultStaysTillItIsAskedFor(t *testing.T) {
	q := with(t, 2, []string{"a"}, []string{"b"})
	put(t, "dropped", q, "c", true, api.ErrFull)
	take(t, "between", q, true, "a", true)
	peek(t, "between", q, false, "b", true)
	take(t, "between", q, false, "b", true)
	take(t, "between", q, false, "", false)
	put(t, "between", q, "d", false, api.OK)
	has(t, "between", q, 2, nil, []string{"d"})
	fault(t, "behind much", q, true)
	fault(t, "asked again", q, false)
	put(t, "behind it", q, "e", true, api.OK)
	fault(t, "full, but nothing dropped", q, false)
	put(t, "behind it", q, "f", true, api.ErrFull)
	q.Clear()
	fault(t, "Clear", q, false)
	has(t, "Clear", q, 2, nil, nil)
}

func TestClear(t *testing.T) {
	for _, c := range []struct {
		name      string
		places    int
		high, low []string
	}{
		{"no places", 0, nil, nil},
		{"an empty queue", 3, nil, nil},
		{"high alone", 3, []string{"a", "b"}, nil},
		{"low alone", 3, nil, []string{"a", "b"}},
		{"full of both", 4, []string{"a", "b"}, []string{"c", "d"}},
		{"one place", 1, nil, []string{"a"}},
		{"64 places", 64, names("h", 30), names("l", 34)},
	} {
		for _, dropped := range []int{0, 1, 3} {
			q := with(t, c.places, c.high, c.low)
			if q.Room() == 0 {
				for range dropped {
					put(t, c.name, q, "dropped", true, api.ErrFull)
				}
			}
			for range 2 {
				q.Clear()
				fault(t, c.name, q, false)
				has(t, c.name, q, c.places, nil, nil)
				for _, high := range bothClasses() {
					take(t, c.name, q, high, "", false)
				}
			}
			fillsAnew(t, c.name, q, c.places)
		}
	}
}

// fillsAnew tells whether just so many may be put into q, which is empty, and nothing of ahead of that comes.
func fillsAnew(t *testing.T, what string, q *Queue[string], places int) {
	t.Helper()
	high, low := names("new high", places/2), names("new low", places-places/2)
	for i, list := range [][]string{high, low} {
		for _, x := range list {
			put(t, what+", anew", q, x, bothClasses()[i], api.OK)
		}
	}
	fault(t, what+", anew", q, false)
	put(t, what+", anew", q, "dropped", false, api.ErrFull)
	fault(t, what+", anew", q, true)
	has(t, what+", anew", q, places, high, low)
}

// goesThrough holds a queue of things of a type against what waits by the chapter; same tells whether two are the same.
func goesThrough[T any](t *testing.T, what string, things []T, same func(a, b T) bool) {
	t.Helper()
	var none T
	q := New[T](len(things))
	waiting := map[bool][]T{}
	for i, x := range things {
		high := i%3 == 0
		if e := q.Put(x, high); e != api.OK {
			t.Errorf("%s: Put = %d", what, e)
		}
		waiting[high] = append(waiting[high], x)
	}
	for _, high := range bothClasses() {
		if e := q.Put(things[0], high); e != api.ErrFull || !q.Fault() {
			t.Errorf("%s: Put into a full one = %d", what, e)
		}
	}
	for _, high := range bothClasses() {
		for _, want := range waiting[high] {
			if x, ok := q.Peek(high); !ok || !same(x, want) {
				t.Errorf("%s: Peek = %v, %v, want %v", what, x, ok, want)
			}
			if x, ok := q.Take(high); !ok || !same(x, want) {
				t.Errorf("%s: Take = %v, %v, want %v", what, x, ok, want)
			}
		}
		if x, ok := q.Peek(high); ok || !same(x, none) {
			t.Errorf("%s: Peek of none = %v, %v", what, x, ok)
		}
		if x, ok := q.Take(high); ok || !same(x, none) {
			t.Errorf("%s: Take of none = %v, %v", what, x, ok)
		}
	}
	var nothing *Queue[T]
	if x, ok := nothing.Take(true); ok || !same(x, none) || nothing.Put(things[0], true) != api.ErrFull {
		t.Errorf("%s: of a nil queue", what)
	}
}

// equal tells whether a and b are equal, of types that may be asked so.
func equal[T comparable](a, b T) bool {
	return a == b
}

// parcel is a struct of one's own, with what == can't tell.
type parcel struct {
	id    int
	name  string
	bytes []byte
	next  *parcel
}

func sameParcel(a, b parcel) bool {
	return a.id == b.id && a.name == b.name && slices.Equal(a.bytes, b.bytes) && a.next == b.next
}

func TestThingsOfManyTypes(t *testing.T) {
	one, two := 1, 2
	first := &parcel{id: 1}
	goesThrough(t, "texts", []string{"a", "", "b", "\x00\xff", "a", "long, and longer"}, equal)
	goesThrough(t, "numbers", []int{3, 0, -1, math.MaxInt, math.MinInt, 3, 0}, equal)
	goesThrough(t, "bytes", []byte{0, 255, 7, 7, 1}, equal)
	goesThrough(t, "bools", []bool{false, true, true, false, false}, equal)
	goesThrough(t, "floats", []float64{1.5, 0, -2, math.Inf(1)}, equal)
	goesThrough(t, "complex numbers", []complex128{1i, 0, 2 + 3i}, equal)
	goesThrough(t, "structs", []parcel{{1, "a", []byte("xy"), nil}, {}, {2, "b", nil, first}, {3, "", []byte{0}, first}, {}}, sameParcel)
	goesThrough(t, "structs with nothing in them", []struct{}{{}, {}, {}, {}}, equal)
	goesThrough(t, "frames", []api.Frame{{Kind: api.Data, Bytes: "abc", Parts: 1}, {}, {Kind: api.Token, Hop: 7}, {Kind: api.Poll, Dst: 3}}, equal)
	goesThrough(t, "arrays", [][3]int{{1, 2, 3}, {}, {3, 2, 1}, {0, 0, 1}}, equal)
	goesThrough(t, "slices", [][]int{{1, 2}, nil, {}, {3}, nil, {4, 5, 6}}, slices.Equal)
	goesThrough(t, "pointers", []*int{&one, nil, &two, &one, nil}, equal)
	goesThrough(t, "interfaces", []any{1, nil, "a", 2.5, nil, first}, equal)
	goesThrough(t, "errors", []error{errors.ErrUnsupported, nil, errors.ErrUnsupported}, equal)
	goesThrough(t, "maps", []map[int]int{{1: 1}, nil, {2: 2}}, func(a, b map[int]int) bool { return len(a) == len(b) && a[1] == b[1] && a[2] == b[2] })
	goesThrough(t, "functions", []func() int{func() int { return 1 }, nil, func() int { return 2 }}, func(a, b func() int) bool {
		return (a == nil) == (b == nil) && (a == nil || a() == b())
	})
	goesThrough(t, "queues", []*Queue[int]{New[int](1), nil, New[int](2)}, equal)
}

// twin goes by the words of the chapter another way: it writes down whatever was ever put, with its class and whether it still waits.
type twin struct {
	places int
	ever   []arrival
	fault  bool
}

type arrival struct {
	x           string
	high, waits bool
}

// waiting tells where in the list those of a class stand that wait.
func (w *twin) waiting(high bool) []int {
	list := []int{}
	for i, a := range w.ever {
		if a.waits && a.high == high {
			list = append(list, i)
		}
	}
	return list
}

func (w *twin) texts(high bool) []string {
	list := []string{}
	for _, i := range w.waiting(high) {
		list = append(list, w.ever[i].x)
	}
	return list
}

func (w *twin) put(x string, high bool) api.Errno {
	n := 0
	for _, a := range w.ever {
		if a.waits {
			n++
		}
	}
	if n >= w.places {
		w.fault = true
		return api.ErrFull
	}
	w.ever = append(w.ever, arrival{x, high, true})
	return api.OK
}

func (w *twin) take(high bool) (string, bool) {
	for i, a := range w.ever {
		if a.waits && a.high == high {
			w.ever[i].waits = false
			return a.x, true
		}
	}
	return "", false
}

func (w *twin) peek(high bool) (string, bool) {
	for _, a := range w.ever {
		if a.waits && a.high == high {
			return a.x, true
		}
	}
	return "", false
}

func (w *twin) asked() bool {
	if w.fault {
		w.fault = false
		return true
	}
	return false
}

func (w *twin) clear() {
	for i := range w.ever {
		w.ever[i].waits = false
	}
	w.fault = false
}

// look is what the queue should look like.
func (w *twin) look() look {
	return lookOf(w.places, w.texts(true), w.texts(false))
}

// answer is what a call answers: those of its fields that the call has.
type answer struct {
	x  string
	ok bool
	n  int
}

// call is one call of a queue and of its twin.
type call struct {
	name string
	do   func(q *Queue[string]) answer
	same func(w *twin) answer
}

func named(name string, high bool) string {
	if high {
		return name + " high"
	}
	return name + " low"
}

func putCall(x string, high bool) call {
	return call{named("Put "+x, high),
		func(q *Queue[string]) answer { return answer{n: int(q.Put(x, high))} },
		func(w *twin) answer { return answer{n: int(w.put(x, high))} }}
}

func takeCall(high bool) call {
	return call{named("Take", high),
		func(q *Queue[string]) answer { x, ok := q.Take(high); return answer{x: x, ok: ok} },
		func(w *twin) answer { x, ok := w.take(high); return answer{x: x, ok: ok} }}
}

func peekCall(high bool) call {
	return call{named("Peek", high),
		func(q *Queue[string]) answer { x, ok := q.Peek(high); return answer{x: x, ok: ok} },
		func(w *twin) answer { x, ok := w.peek(high); return answer{x: x, ok: ok} }}
}

func lenCall(high bool) call {
	return call{named("Len", high),
		func(q *Queue[string]) answer { return answer{n: q.Len(high)} },
		func(w *twin) answer { return answer{n: len(w.waiting(high))} }}
}

func roomCall() call {
	return call{"Room",
		func(q *Queue[string]) answer { return answer{n: q.Room()} },
		func(w *twin) answer { return answer{n: w.places - len(w.waiting(true)) - len(w.waiting(false))} }}
}

func faultCall() call {
	return call{"Fault",
		func(q *Queue[string]) answer { return answer{ok: q.Fault()} },
		func(w *twin) answer { return answer{ok: w.asked()} }}
}

func clearCall() call {
	return call{"Clear",
		func(q *Queue[string]) answer { q.Clear(); return answer{} },
		func(w *twin) answer { w.clear(); return answer{} }}
}

// behind tells the names of the last ones of some calls.
func behind(calls []call) string {
	text := ""
	for _, c := range calls[max(0, len(calls)-20):] {
		text += ", " + c.name
	}
	return text
}

// run does the calls on q and w, and looks behind each, if it is to look at all; at last it takes all.
func run(t *testing.T, q *Queue[string], w *twin, looks bool, calls []call) {
	t.Helper()
	for i, c := range calls {
		if got, want := c.do(q), c.same(w); got != want {
			t.Fatalf("of %d places, behind%s: %+v, want %+v", w.places, behind(calls[:i+1]), got, want)
		}
		if !looks {
			continue
		}
		if got, want := lookAt(q), w.look(); got != want {
			t.Fatalf("of %d places, behind%s:\n got %+v\nwant %+v", w.places, behind(calls[:i+1]), got, want)
		}
	}
	if q.Fault() != w.asked() {
		t.Fatalf("of %d places, behind%s: another fault", w.places, behind(calls))
	}
	for _, high := range bothClasses() {
		for _, want := range append(w.texts(high), "") {
			if x, ok := q.Take(high); x != want || ok != (want != "") {
				t.Fatalf("of %d places, behind%s: Take(%v) = %q, want %q", w.places, behind(calls), high, x, want)
			}
		}
	}
}

// eachRun does all runs of so many calls over those.
func eachRun(calls []call, n int, do func(chosen []call)) {
	chosen := make([]call, n)
	var choose func(at int)
	choose = func(at int) {
		if at == n {
			do(chosen)
			return
		}
		for _, c := range calls {
			chosen[at] = c
			choose(at + 1)
		}
	}
	choose(0)
}

// TestAllShortRuns holds all runs of six calls over seven against the twin.
func TestAllShortRuns(t *testing.T) {
	calls := []call{putCall("a", true), putCall("b", true), putCall("c", false), takeCall(true), takeCall(false), faultCall(), clearCall()}
	for places := range 4 {
		for _, looks := range []bool{true, false} {
			eachRun(calls, 6, func(chosen []call) {
				run(t, New[string](places), &twin{places: places}, looks, chosen)
			})
		}
	}
}

// TestAllShortRunsOfAllCalls holds all runs of four calls over all of them against the twin, behind two Puts.
func TestAllShortRunsOfAllCalls(t *testing.T) {
	calls := []call{
		putCall("a", true), putCall("b", false), takeCall(true), takeCall(false), peekCall(true), peekCall(false),
		lenCall(true), lenCall(false), roomCall(), faultCall(), clearCall(),
	}
	for places := 1; places <= 3; places++ {
		eachRun(calls, 4, func(chosen []call) {
			q, w := New[string](places), &twin{places: places}
			for _, c := range []call{putCall("x", true), putCall("y", false)} {
				c.do(q)
				c.same(w)
			}
			run(t, q, w, false, chosen)
		})
	}
}

// dice are numbers in no order, always the same ones.
type dice uint32

func (d *dice) roll(below int) int {
	*d = *d*1664525 + 1013904223
	return int(*d>>8) % below
}

// longRun is n calls in no order; of 16 of them busy are Puts, and of 16 Puts and Takes so many are high.
func longRun(d *dice, n, busy, highs int) []call {
	list := []call{}
	for i := range n {
		high := d.roll(16) < highs
		if d.roll(16) < busy {
			list = append(list, putCall(strconv.Itoa(i), high))
			continue
		}
		switch d.roll(40) {
		case 0:
			list = append(list, clearCall())
		case 1, 2, 3, 4:
			list = append(list, faultCall())
		case 5, 6:
			list = append(list, peekCall(high))
		case 7:
			list = append(list, lenCall(high))
		case 8:
			list = append(list, roomCall())
		default:
			list = append(list, takeCall(high))
		}
	}
	return list
}

func TestLongRuns(t *testing.T) {
	d := dice(10)
	for _, places := range []int{0, 1, 2, 3, 15, 16, 17, 63, 64} {
		for _, busy := range []int{4, 8, 9, 12, 15} {
			for _, highs := range []int{0, 1, 8, 15, 16} {
				run(t, New[string](places), &twin{places: places}, true, longRun(&d, 300, busy, highs))
				run(t, New[string](places), &twin{places: places}, false, longRun(&d, 300, busy, highs))
			}
		}
	}
}

// TestLongRunsOfFewerAndMorePlacesThanMayBe holds what New brings them to against the twin.
func TestLongRunsOfFewerAndMorePlacesThanMayBe(t *testing.T) {
	d := dice(64)
	for _, c := range placesFor() {
		run(t, New[string](c[0]), &twin{places: c[1]}, true, longRun(&d, 250, 13, 8))
	}
}

// item is one that is told from all others: the nth of its class that was put.
type item struct {
	high bool
	n    int
}

// ledger counts, without a list, what was put and taken of each class: what was put and not dropped has the numbers from 0 on.
type ledger struct {
	put, taken map[bool]int
	dropped    bool
}

func (l *ledger) waits() int {
	return l.put[true] + l.put[false] - l.taken[true] - l.taken[false]
}

// step does one thing with q, and tells what is wrong with it.
func (l *ledger) step(t *testing.T, d *dice, q *Queue[item], places, busy int) {
	t.Helper()
	high := d.roll(2) == 0
	switch act := d.roll(32); {
	case act < busy:
		e := q.Put(item{high, l.put[high]}, high)
		if (e == api.OK) != (l.waits() < places) {
			t.Fatalf("Put, when %d of %d places were taken: %d", l.waits(), places, e)
		}
		if e == api.OK {
			l.put[high]++
		}
		l.dropped = l.dropped || e != api.OK
	case act < 30:
		x, ok := q.Take(high)
		if ok != (l.put[high] > l.taken[high]) || ok && x != (item{high, l.taken[high]}) || !ok && x != (item{}) {
			t.Fatalf("Take(%v) = %v, %v, when %d were put and %d taken", high, x, ok, l.put[high], l.taken[high])
		}
		if ok {
			l.taken[high]++
		}
	case act < 31:
		x, ok := q.Peek(high)
		if ok != (l.put[high] > l.taken[high]) || ok && x != (item{high, l.taken[high]}) || !ok && x != (item{}) {
			t.Fatalf("Peek(%v) = %v, %v, when %d were put and %d taken", high, x, ok, l.put[high], l.taken[high])
		}
	default:
		if q.Fault() != l.dropped {
			t.Fatalf("Fault, and something was dropped: %v", l.dropped)
		}
		l.dropped = false
	}
}

// TestTheOrderOverLongRuns holds P10.2: of each class things go in the order in which they came, each once, and no more than there are places wait.
func TestTheOrderOverLongRuns(t *testing.T) {
	d := dice(102)
	for _, places := range []int{1, 2, 5, 16, 33, 63, 64} {
		for _, busy := range []int{8, 15, 20, 28} {
			q, l := New[item](places), &ledger{put: map[bool]int{}, taken: map[bool]int{}}
			for range 4000 {
				l.step(t, &d, q, places, busy)
				if q.Len(true)+q.Len(false) > places || q.Len(true)+q.Len(false) != l.waits() || q.Room() != places-l.waits() || q.Len(true) != l.put[true]-l.taken[true] {
					t.Fatalf("%d places: %d and %d wait, Room %d, want %d", places, q.Len(true), q.Len(false), q.Room(), l.waits())
				}
			}
			for _, high := range bothClasses() {
				for n := l.taken[high]; n < l.put[high]; n++ {
					if x, ok := q.Take(high); !ok || x != (item{high, n}) {
						t.Fatalf("%d places, at last: Take(%v) = %v, %v, want %d", places, high, x, ok, n)
					}
				}
				if x, ok := q.Take(high); ok {
					t.Fatalf("%d places, at last: %v more", places, x)
				}
			}
		}
	}
}

// TestTheOrderWhateverIsDoneWithTheOtherClass holds P10.2 for some that wait while many others of the other class come and go, and some are dropped.
func TestTheOrderWhateverIsDoneWithTheOtherClass(t *testing.T) {
	for _, class := range bothClasses() {
		for _, n := range []int{1, 2, 31, 63, 64} {
			q := New[int](64)
			for i := range n {
				q.Put(i, class)
			}
			others := 0
			for i := range 1000 {
				if q.Put(i, !class) == api.OK {
					others++
				}
				if i%3 == 0 {
					if _, ok := q.Take(!class); ok {
						others--
					}
				}
				if x, ok := q.Peek(class); !ok || x != 0 || q.Len(class) != n || q.Len(!class) != others || q.Room() != 64-n-others {
					t.Fatalf("%d of a class, time %d: %d, %v, Len %d and %d, Room %d", n, i, x, ok, q.Len(class), q.Len(!class), q.Room())
				}
			}
			for i := range n {
				if x, ok := q.Take(class); !ok || x != i {
					t.Errorf("%d of a class: %d, %v, want %d", n, x, ok, i)
				}
			}
		}
	}
}

// TestOneInOneOut goes round with as many waiting as there are places, or fewer, for long.
func TestOneInOneOut(t *testing.T) {
	for _, places := range []int{1, 2, 7, 64} {
		for waits := range places {
			for _, class := range bothClasses() {
				q := New[int](places)
				for i := range waits {
					q.Put(i, class)
				}
				for i := range 300 {
					if e := q.Put(waits+i, class); e != api.OK {
						t.Fatalf("%d of %d places: Put = %d", waits, places, e)
					}
					if x, ok := q.Take(class); !ok || x != i {
						t.Fatalf("%d of %d places: %d, %v, want %d", waits, places, x, ok, i)
					}
				}
				if q.Len(class) != waits || q.Len(!class) != 0 || q.Room() != places-waits || q.Fault() {
					t.Errorf("%d of %d places: Len %d, Room %d", waits, places, q.Len(class), q.Room())
				}
			}
		}
	}
}

// TestZeroValues holds a queue that New didn't make: it has no places.
func TestZeroValues(t *testing.T) {
	var q Queue[string]
	has(t, "zero values", &q, 0, nil, nil)
	fault(t, "zero values", &q, false)
	for _, high := range bothClasses() {
		take(t, "zero values", &q, high, "", false)
		put(t, "zero values", &q, "a", high, api.ErrFull)
		has(t, "zero values", &q, 0, nil, nil)
		fault(t, "zero values, dropped", &q, true)
		fault(t, "zero values, asked again", &q, false)
	}
	q.Put("a", true)
	q.Clear()
	fault(t, "zero values, Clear", &q, false)
	d := dice(3)
	for range 10 {
		run(t, &Queue[string]{}, &twin{}, true, longRun(&d, 200, 6, 8))
		run(t, new(Queue[string]), &twin{}, false, longRun(&d, 200, 6, 8))
	}
}

// TestNothingThere holds R2, of a nil queue.
func TestNothingThere(t *testing.T) {
	var q *Queue[string]
	for range 3 {
		for _, high := range bothClasses() {
			put(t, "nil", q, "a", high, api.ErrFull)
			put(t, "nil", q, "", high, api.ErrFull)
			peek(t, "nil", q, high, "", false)
			take(t, "nil", q, high, "", false)
			if n := q.Len(high); n != 0 {
				t.Errorf("nil: Len(%v) = %d", high, n)
			}
		}
		if n := q.Room(); n != 0 {
			t.Errorf("nil: Room = %d", n)
		}
		fault(t, "nil", q, false)
		q.Clear()
		if q != nil {
			t.Fatal("nil: it is one now")
		}
	}
}

// TestTwoQueues don't touch one another.
func TestTwoQueues(t *testing.T) {
	a, b := with(t, 2, []string{"a"}, []string{"b"}), with(t, 2, []string{"c"}, nil)
	put(t, "the one", a, "x", true, api.ErrFull)
	fault(t, "the other one", b, false)
	put(t, "the other one", b, "d", true, api.OK)
	take(t, "the other one", b, true, "c", true)
	has(t, "the one", a, 2, []string{"a"}, []string{"b"})
	a.Clear()
	has(t, "the other one", b, 2, []string{"d"}, nil)
	has(t, "the one", a, 2, nil, nil)
	has(t, "one new behind them", New[string](1), 1, nil, nil)
}

// TestWhatWasAnsweredStays holds P0: no later call changes what was answered.
func TestWhatWasAnsweredStays(t *testing.T) {
	type kept struct {
		got, want [4]int
	}
	d := dice(7)
	for _, places := range []int{1, 3, 64} {
		q, list := New[[4]int](places), []kept{}
		waiting := map[bool][][4]int{}
		for i := range 2000 {
			high := d.roll(2) == 0
			x := [4]int{i, i * i, -i, d.roll(9)}
			switch d.roll(6) {
			case 0, 1, 2:
				if q.Put(x, high) == api.OK {
					waiting[high] = append(waiting[high], x)
				}
			case 3:
				if got, ok := q.Peek(high); ok {
					list = append(list, kept{got, waiting[high][0]})
				}
			case 4:
				if got, ok := q.Take(high); ok {
					list = append(list, kept{got, waiting[high][0]})
					waiting[high] = waiting[high][1:]
				}
			default:
				q.Fault()
				if d.roll(20) == 0 {
					q.Clear()
					waiting = map[bool][][4]int{}
				}
			}
		}
		for _, k := range list {
			if k.got != k.want {
				t.Fatalf("%d places: answered %v, want %v", places, k.got, k.want)
			}
		}
	}
}

// TestThingsAreLeftAsTheyAre: what is put in is neither changed nor made anew, and what is answered is the caller's own.
func TestThingsAreLeftAsTheyAre(t *testing.T) {
	one := &parcel{id: 1, name: "one", bytes: []byte("xyz")}
	q := New[*parcel](2)
	q.Put(one, true)
	q.Put(&parcel{id: 2}, true)
	peeked, _ := q.Peek(true)
	taken, _ := q.Take(true)
	if peeked != one || taken != one || one.id != 1 || one.name != "one" || string(one.bytes) != "xyz" || one.next != nil {
		t.Errorf("%+v, and then %+v", peeked, taken)
	}
	if next, _ := q.Take(true); next.id != 2 {
		t.Errorf("the next one: %+v", next)
	}

	values := New[parcel](2)
	mine := parcel{id: 3, name: "mine"}
	values.Put(mine, false)
	mine.id = 4
	got, _ := values.Peek(false)
	if got.id != 3 {
		t.Errorf("changed behind Put: %d", got.id)
	}
	got.id = 5
	if again, _ := values.Take(false); again.id != 3 {
		t.Errorf("changed behind Peek: %d", again.id)
	}

	bytes := []byte("abc")
	lists := New[[]byte](2)
	lists.Put(bytes, true)
	lists.Put([]byte("de"), true)
	first, _ := lists.Take(true)
	lists.Put([]byte("fgh"), true)
	lists.Clear()
	if string(first) != "abc" || string(bytes) != "abc" {
		t.Errorf("%q, and %q", first, bytes)
	}
}

// putWeakly puts n things that nobody else has, and tells how to ask whether they are still there.
func putWeakly(q *Queue[*parcel], n int, high bool) []weak.Pointer[parcel] {
	list := []weak.Pointer[parcel]{}
	for i := range n {
		x := &parcel{id: i}
		q.Put(x, high)
		list = append(list, weak.Make(x))
	}
	return list
}

// alive tells how many of them are still there.
func alive(list []weak.Pointer[parcel]) int {
	runtime.GC()
	n := 0
	for _, p := range list {
		if p.Value() != nil {
			n++
		}
	}
	return n
}

// TestNothingIsKeptOfWhatWent: what was taken, what Clear let go and what was dropped stays in no memory of the queue's.
func TestNothingIsKeptOfWhatWent(t *testing.T) {
	for _, high := range bothClasses() {
		q := New[*parcel](64)
		first, others := putWeakly(q, 20, high), putWeakly(q, 44, !high)
		dropped := putWeakly(q, 5, high)
		for range 15 {
			q.Take(high)
			q.Take(!high)
		}
		if alive(first) != 5 || alive(others) != 29 || alive(dropped) != 0 {
			t.Errorf("class %v: kept %d of 5, %d of 29, and %d dropped", high, alive(first), alive(others), alive(dropped))
		}
		for range 5 {
			q.Take(high)
		}
		if alive(first) != 0 || alive(others) != 29 {
			t.Errorf("class %v: kept %d of none, and %d of 29", high, alive(first), alive(others))
		}
		q.Clear()
		if alive(others) != 0 {
			t.Errorf("class %v: kept behind Clear: %d", high, alive(others))
		}
		runtime.KeepAlive(q)
	}
}

// TestEveryCallEnds holds P0 and R7: every call answers, of queues of all sizes, however full, and the same of two with which the same was done.
func TestEveryCallEnds(t *testing.T) {
	for _, c := range placesFor() {
		a, b := New[string](c[0]), New[string](c[0])
		d := dice(c[1])
		for _, done := range longRun(&d, 600, 10, 8) {
			if one, two := done.do(a), done.do(b); one != two || lookAt(a) != lookAt(b) {
				t.Fatalf("New(%d): %s: two answers: %+v and %+v", c[0], done.name, one, two)
			}
		}
	}
}
