package wheel

import (
	"math"
	"slices"
	"strconv"
	"testing"
)

// look is all that the calls tell of a wheel and leave as it is.
type look struct {
	left    [16]int
	soonest int
	some    bool
	set     int
}

func lookAt(w *Wheel) look {
	l := look{set: w.Len()}
	for id := range l.left {
		l.left[id] = w.Left(id)
	}
	l.soonest, l.some = w.Soonest()
	return l
}

// lookOf is what a wheel with those timers, and no others, looks like.
func lookOf(timers map[int]int) look {
	l := look{set: len(timers)}
	for id, ticks := range timers {
		l.left[id] = ticks
		if !l.some || ticks < l.soonest {
			l.soonest, l.some = ticks, true
		}
	}
	return l
}

func expect(t *testing.T, what string, w *Wheel, timers map[int]int) {
	t.Helper()
	if got, want := lookAt(w), lookOf(timers); got != want {
		t.Errorf("%s:\n got %+v\nwant %+v", what, got, want)
	}
}

func came(t *testing.T, what string, got []int, want ...int) {
	t.Helper()
	if !slices.Equal(got, want) {
		t.Errorf("%s: %v, want %v", what, got, want)
	}
}

// with tells a wheel with those timers.
func with(t *testing.T, timers map[int]int) *Wheel {
	t.Helper()
	w := New()
	for id, ticks := range timers {
		if !w.Set(id, ticks) {
			t.Fatalf("Set(%d, %d)", id, ticks)
		}
	}
	return w
}

// allAt are all sixteen timers, with so many ticks each.
func allAt(ticks int) map[int]int {
	timers := map[int]int{}
	for id := range 16 {
		timers[id] = ticks
	}
	return timers
}

func allTimers() []int {
	return []int{0, 1, 2, 3, 4, 5, 6, 7, 8, 9, 10, 11, 12, 13, 14, 15}
}

// noTimers are numbers of which no timer is, many of them with a timer's number in their lowest bits.
func noTimers() []int {
	return []int{
		math.MinInt, math.MinInt + 1, math.MinInt + 3, -1<<32 + 3, -1 << 32, -1 << 31, -65536, -256, -253, -64, -61, -32, -17, -16, -15, -13, -2, -1,
		16, 17, 18, 19, 31, 32, 35, 48, 63, 64, 67, 99, 128, 256, 259, 65536, 1<<31 - 1, 1 << 31, 1<<32 - 1, 1 << 32, 1<<32 + 3, math.MaxInt - 12, math.MaxInt - 1, math.MaxInt,
	}
}

func rightTicks() []int {
	return []int{1, 2, 3, 15, 16, 17, 63, 64, 65, 255, 256, 257, 1000, 4095, 4096, 4097, 8191, 8192, 9998, 9999, 10000}
}

// wrongTicks are none that a timer may be set to, some of them with 1 to 10000 in their lowest bits.
func wrongTicks() []int {
	return []int{
		math.MinInt, math.MinInt + 1, math.MinInt + 5, -1<<32 + 5, -1 << 32, -1<<31 + 5, -1 << 31, -65536 + 5, -20000, -10001, -10000, -9999, -256, -16, -4, -2, -1, 0,
		10001, 10002, 16384, 19999, 20000, 20001, 65535, 65536, 65536 + 5, 1<<31 - 1, 1 << 31, 1<<31 + 5, 1 << 32, 1<<32 + 5, 1 << 62, math.MaxInt - 1, math.MaxInt,
	}
}

// skips are numbers to skip: the ends, and some between them.
func skips() []int {
	return []int{
		math.MinInt, math.MinInt + 1, -1<<32 + 2, -1 << 31, -20001, -20000, -2, -1, 0, 1, 2, 3, 4, 5, 6, 7, 8, 63, 64, 65, 999, 1000,
		9998, 9999, 10000, 10001, 10002, 19999, 20000, 20001, 20002, 1<<31 - 1, 1 << 32, 1<<32 + 2, math.MaxInt - 1, math.MaxInt,
	}
}

// twin goes by the words of the chapter another way: each timer that is set has the tick at which it comes, counted from the first one on.
type twin struct {
	now int
	due map[int]int
}

func newTwin() *twin {
	return &twin{due: map[int]int{}}
}

func (p *twin) set(id, ticks int) bool {
	if !slices.Contains(allTimers(), id) || ticks <= 0 || ticks >= 10001 {
		return false
	}
	p.due[id] = p.now + ticks
	return true
}

func (p *twin) cancel(id int) bool {
	_, ok := p.due[id]
	delete(p.due, id)
	return ok
}

func (p *twin) tick() []int {
	p.now++
	list := []int{}
	for id, at := range p.due {
		if at == p.now {
			list = append(list, id)
		}
	}
	for _, id := range list {
		delete(p.due, id)
	}
	slices.Sort(list)
	return list
}

func (p *twin) skip(n int) []int {
	list := []int{}
	for taken := 0; taken < n && taken < 20000; taken++ {
		list = append(list, p.tick()...)
	}
	return list
}

func (p *twin) timers() map[int]int {
	timers := map[int]int{}
	for id, at := range p.due {
		timers[id] = at - p.now
	}
	return timers
}

// dice are numbers in no order, always the same ones.
type dice uint32

func (d *dice) roll(below int) int {
	*d = *d*1664525 + 1013904223
	return int(*d>>8) % below
}

func TestNew(t *testing.T) {
	w := New()
	if w == nil {
		t.Fatal("New: nil")
	}
	expect(t, "New", w, nil)
	for id := range 16 {
		if w.Cancel(id) {
			t.Errorf("New: %d was set", id)
		}
	}
	came(t, "Tick", w.Tick())
	came(t, "Skip", w.Skip(20000))
	expect(t, "none is set", w, nil)
}

func TestTheExample(t *testing.T) {
	w := New()
	if !w.Set(3, 2) {
		t.Error("Set(3, 2)")
	}
	came(t, "the first Tick", w.Tick())
	came(t, "the second Tick", w.Tick(), 3)
	came(t, "the third Tick", w.Tick())
}

func TestSet(t *testing.T) {
	for _, c := range []struct {
		id, ticks int
		want      bool
	}{
		{0, 1, true}, {0, 2, true}, {0, 9999, true}, {0, 10000, true}, {15, 1, true}, {15, 10000, true}, {7, 5000, true},
		{0, 0, false}, {0, -1, false}, {0, 10001, false}, {15, 0, false}, {15, -1, false}, {15, 10001, false}, {7, math.MinInt, false}, {7, math.MaxInt, false},
		{-1, 1, false}, {-1, 10000, false}, {16, 1, false}, {16, 10000, false}, {math.MinInt, 1, false}, {math.MaxInt, 1, false},
		{-1, 0, false}, {16, 0, false}, {16, 16, false}, {math.MinInt, math.MinInt, false}, {math.MaxInt, math.MaxInt, false}, {math.MinInt, math.MaxInt, false},
	} {
		w := New()
		if got := w.Set(c.id, c.ticks); got != c.want {
			t.Errorf("Set(%d, %d) = %v", c.id, c.ticks, got)
		}
		timers := map[int]int{}
		if c.want {
			timers[c.id] = c.ticks
		}
		expect(t, "Set", w, timers)
	}
}

func TestSetOfAllTimersAndTicks(t *testing.T) {
	for id := range 16 {
		w := New()
		for ticks := 1; ticks <= 10000; ticks++ {
			if !w.Set(id, ticks) || w.Left(id) != ticks || w.Len() != 1 {
				t.Fatalf("Set(%d, %d): %d left, %d set", id, ticks, w.Left(id), w.Len())
			}
		}
	}
	for ticks := -300; ticks <= 0; ticks++ {
		if New().Set(5, ticks) {
			t.Fatalf("Set(5, %d)", ticks)
		}
	}
	for ticks := 10001; ticks <= 70000; ticks++ {
		if New().Set(5, ticks) {
			t.Fatalf("Set(5, %d)", ticks)
		}
	}
}

// TestASetThatIsRefusedLeavesAllAsItWas holds R3, with the timer set, and with it not set.
func TestASetThatIsRefusedLeavesAllAsItWas(t *testing.T) {
	timers := map[int]int{0: 1, 3: 2, 7: 10000, 15: 34}
	w := with(t, timers)
	for id := range 16 {
		for _, ticks := range wrongTicks() {
			if w.Set(id, ticks) {
				t.Fatalf("Set(%d, %d)", id, ticks)
			}
		}
		expect(t, "ticks that may not be", w, timers)
	}
	for _, id := range noTimers() {
		for _, ticks := range slices.Concat(rightTicks(), wrongTicks()) {
			if w.Set(id, ticks) {
				t.Fatalf("Set(%d, %d)", id, ticks)
			}
		}
		expect(t, "timers that there are none of", w, timers)
	}
	came(t, "the Tick behind it", w.Tick(), 0)
	came(t, "all Ticks behind it", w.Skip(10000), 3, 15, 7)
}

// TestSetAnew sets one that is set already: to more ticks, to fewer, and to as many.
func TestSetAnew(t *testing.T) {
	for _, first := range rightTicks() {
		for _, second := range rightTicks() {
			for _, between := range []int{0, 1, 2, 15} {
				w := with(t, map[int]int{4: first, 9: 10000})
				w.Skip(min(between, first-1))
				other := 10000 - min(between, first-1)
				if !w.Set(4, second) {
					t.Fatalf("Set(4, %d) anew", second)
				}
				timers := map[int]int{4: second}
				if other > 0 {
					timers[9] = other
				}
				expect(t, "set anew", w, timers)
			}
		}
	}
}

func TestSetAnewComesOnce(t *testing.T) {
	w := with(t, map[int]int{4: 2})
	w.Tick()
	w.Set(4, 3)
	came(t, "when it would have come", w.Tick())
	came(t, "ahead of it", w.Tick())
	came(t, "later", w.Tick(), 4)
	w.Set(4, 9)
	w.Set(4, 1)
	came(t, "sooner", w.Tick(), 4)
	came(t, "never again", w.Skip(20000))
}

func TestCancel(t *testing.T) {
	w := with(t, map[int]int{0: 1, 3: 2, 15: 10000})
	for _, c := range []struct {
		id   int
		want bool
		left map[int]int
	}{
		{1, false, map[int]int{0: 1, 3: 2, 15: 10000}},
		{-1, false, map[int]int{0: 1, 3: 2, 15: 10000}},
		{16, false, map[int]int{0: 1, 3: 2, 15: 10000}},
		{3, true, map[int]int{0: 1, 15: 10000}},
		{3, false, map[int]int{0: 1, 15: 10000}},
		{15, true, map[int]int{0: 1}},
		{15, false, map[int]int{0: 1}},
		{0, true, nil},
		{0, false, nil},
	} {
		if got := w.Cancel(c.id); got != c.want {
			t.Errorf("Cancel(%d) = %v", c.id, got)
		}
		expect(t, "Cancel", w, c.left)
	}
	came(t, "what was cancelled doesn't come", w.Skip(20000))
}

func TestCancelOfOneThatCame(t *testing.T) {
	w := with(t, map[int]int{2: 1, 5: 3, 9: 10})
	came(t, "Tick", w.Tick(), 2)
	if w.Cancel(2) {
		t.Error("it came with a Tick")
	}
	came(t, "Skip", w.Skip(2), 5)
	if w.Cancel(5) {
		t.Error("it came with a Skip")
	}
	expect(t, "one is left", w, map[int]int{9: 7})
	if !w.Cancel(9) || w.Cancel(9) {
		t.Error("Cancel(9)")
	}
	if !w.Set(9, 1) {
		t.Error("Set behind Cancel")
	}
	came(t, "set behind Cancel", w.Tick(), 9)
}

func TestCancelAndLeftOfNoTimers(t *testing.T) {
	timers := allAt(7)
	w := with(t, timers)
	for _, id := range noTimers() {
		if w.Cancel(id) {
			t.Errorf("Cancel(%d)", id)
		}
		if n := w.Left(id); n != 0 {
			t.Errorf("Left(%d) = %d", id, n)
		}
	}
	expect(t, "all as it was", w, timers)
}

func TestLeft(t *testing.T) {
	w := with(t, map[int]int{0: 3, 15: 10000})
	for _, c := range []struct{ zero, last int }{{3, 10000}, {2, 9999}, {1, 9998}, {0, 9997}, {0, 9996}} {
		if n := w.Left(0); n != c.zero {
			t.Errorf("Left(0) = %d, want %d", n, c.zero)
		}
		if n := w.Left(15); n != c.last {
			t.Errorf("Left(15) = %d, want %d", n, c.last)
		}
		if n := w.Left(7); n != 0 {
			t.Errorf("Left(7) = %d, and it was never set", n)
		}
		w.Tick()
	}
}

func TestTick(t *testing.T) {
	for _, c := range []struct {
		name   string
		timers map[int]int
		want   []int
		left   map[int]int
	}{
		{"none is set", nil, nil, nil},
		{"one, and it comes", map[int]int{6: 1}, []int{6}, nil},
		{"one, and it doesn't", map[int]int{6: 2}, nil, map[int]int{6: 1}},
		{"one with the most ticks", map[int]int{6: 10000}, nil, map[int]int{6: 9999}},
		{"0", map[int]int{0: 1}, []int{0}, nil},
		{"15", map[int]int{15: 1}, []int{15}, nil},
		{"0 and 15", map[int]int{15: 1, 0: 1}, []int{0, 15}, nil},
		{"some come", map[int]int{1: 1, 2: 2, 9: 1, 12: 3, 15: 1}, []int{1, 9, 15}, map[int]int{2: 1, 12: 2}},
		{"none comes", map[int]int{1: 5, 2: 2, 9: 3}, nil, map[int]int{1: 4, 2: 1, 9: 2}},
		{"all come", allAt(1), allTimers(), nil},
		{"none of all comes", allAt(2), nil, allAt(1)},
	} {
		w := with(t, c.timers)
		came(t, c.name, w.Tick(), c.want...)
		expect(t, c.name, w, c.left)
	}
}

func TestManyTicks(t *testing.T) {
	w := with(t, map[int]int{0: 1, 3: 2, 15: 4, 7: 2, 9: 6})
	for i, want := range [][]int{{0}, {3, 7}, {}, {15}, {}, {9}, {}, {}} {
		came(t, "Tick "+strconv.Itoa(i+1), w.Tick(), want...)
	}
	expect(t, "all came", w, nil)
}

// TestAllComeAtOnce sets all sixteen falling, at different moments, so that their order isn't the one in which they were set.
func TestAllComeAtOnce(t *testing.T) {
	for _, skip := range []bool{false, true} {
		w := New()
		for id := 15; id >= 0; id-- {
			w.Set(id, 100+id)
			w.Tick()
		}
		expect(t, "all at once", w, allAt(99))
		if skip {
			came(t, "Skip", w.Skip(99), allTimers()...)
		} else {
			came(t, "Skip, ahead of them", w.Skip(98))
			came(t, "Tick", w.Tick(), allTimers()...)
		}
		expect(t, "all came", w, nil)
	}
}

// TestOneThatCameIsSetNoMore asks all calls, and sets it anew.
func TestOneThatCameIsSetNoMore(t *testing.T) {
	for id := range 16 {
		for _, skip := range []bool{false, true} {
			w := with(t, map[int]int{id: 1})
			if skip {
				came(t, "Skip", w.Skip(1), id)
			} else {
				came(t, "Tick", w.Tick(), id)
			}
			expect(t, "it came", w, nil)
			if w.Cancel(id) {
				t.Errorf("%d was set", id)
			}
			came(t, "not once more", w.Skip(20000))
			if !w.Set(id, 2) {
				t.Errorf("Set(%d) behind it", id)
			}
			came(t, "set behind it", w.Skip(2), id)
		}
	}
}

func TestSkip(t *testing.T) {
	timers := map[int]int{4: 3, 8: 5, 1: 5, 6: 9, 0: 10000}
	for _, c := range []struct {
		n    int
		want []int
		left map[int]int
	}{
		{math.MinInt, nil, timers},
		{-20001, nil, timers},
		{-1, nil, timers},
		{0, nil, timers},
		{1, nil, map[int]int{4: 2, 8: 4, 1: 4, 6: 8, 0: 9999}},
		{2, nil, map[int]int{4: 1, 8: 3, 1: 3, 6: 7, 0: 9998}},
		{3, []int{4}, map[int]int{8: 2, 1: 2, 6: 6, 0: 9997}},
		{4, []int{4}, map[int]int{8: 1, 1: 1, 6: 5, 0: 9996}},
		{5, []int{4, 1, 8}, map[int]int{6: 4, 0: 9995}},
		{6, []int{4, 1, 8}, map[int]int{6: 3, 0: 9994}},
		{9, []int{4, 1, 8, 6}, map[int]int{0: 9991}},
		{9999, []int{4, 1, 8, 6}, map[int]int{0: 1}},
		{10000, []int{4, 1, 8, 6, 0}, nil},
		{10001, []int{4, 1, 8, 6, 0}, nil},
		{20000, []int{4, 1, 8, 6, 0}, nil},
		{20001, []int{4, 1, 8, 6, 0}, nil},
		{1 << 32, []int{4, 1, 8, 6, 0}, nil},
		{math.MaxInt, []int{4, 1, 8, 6, 0}, nil},
	} {
		w := with(t, timers)
		came(t, "Skip "+strconv.Itoa(c.n), w.Skip(c.n), c.want...)
		expect(t, "Skip "+strconv.Itoa(c.n), w, c.left)
	}
}

// TestSkipNearTheSoonest skips one fewer, as many, and one more than the soonest one has left.
func TestSkipNearTheSoonest(t *testing.T) {
	for _, ticks := range rightTicks() {
		for _, more := range []int{-1, 0, 1} {
			w, p := New(), newTwin()
			for id, n := range map[int]int{11: ticks, 2: ticks, 5: min(ticks+1, 10000), 7: min(ticks+2, 10000)} {
				w.Set(id, n)
				p.set(id, n)
			}
			came(t, "Skip near "+strconv.Itoa(ticks), w.Skip(ticks+more), p.skip(ticks+more)...)
			expect(t, "Skip near "+strconv.Itoa(ticks), w, p.timers())
		}
	}
}

// someWheels are timers of which each wheel is set, empty and full ones among them.
func someWheels() []map[int]int {
	list := []map[int]int{
		nil, {0: 1}, {15: 1}, {7: 10000}, {3: 2, 7: 2, 0: 1}, {0: 10000, 15: 1}, {0: 1, 15: 10000}, {5: 9999, 6: 10000}, {6: 9999, 5: 10000},
		allAt(1), allAt(2), allAt(64), allAt(9999), allAt(10000),
	}
	rising, falling := map[int]int{}, map[int]int{}
	for id := range 16 {
		rising[id], falling[id] = id+1, 16-id
	}
	list = append(list, rising, falling)
	d := dice(1)
	for range 12 {
		timers := map[int]int{}
		most := []int{4, 70, 1000, 10000}[d.roll(4)]
		for range d.roll(24) {
			timers[d.roll(16)] = 1 + d.roll(most)
		}
		list = append(list, timers)
	}
	return list
}

// TestASkipIsSoManyTicks holds Skip against Ticks of another wheel, and both against the twin. Behind 20000 Ticks none is set, so more are not taken one by one.
func TestASkipIsSoManyTicks(t *testing.T) {
	for i, timers := range someWheels() {
		for _, n := range skips() {
			what := "wheel " + strconv.Itoa(i) + ", Skip " + strconv.Itoa(n)
			skipped, ticked, p := with(t, timers), with(t, timers), newTwin()
			for id, ticks := range timers {
				p.set(id, ticks)
			}
			list := []int{}
			for range min(n, 20000) {
				list = append(list, ticked.Tick()...)
			}
			came(t, what+", by Ticks", list, p.skip(n)...)
			came(t, what, skipped.Skip(n), list...)
			expect(t, what+", by Ticks", ticked, p.timers())
			expect(t, what, skipped, p.timers())
		}
	}
}

// TestSkipsBehindOneAnother are as one Skip of all their ticks.
func TestSkipsBehindOneAnother(t *testing.T) {
	for i, timers := range someWheels() {
		for _, step := range []int{1, 2, 3, 7, 64, 999, 5000, 9999} {
			w, whole := with(t, timers), with(t, timers)
			list := []int{}
			taken := 0
			for taken < 10000 {
				list = append(list, w.Skip(step)...)
				taken += step
			}
			came(t, "wheel "+strconv.Itoa(i)+", Skips of "+strconv.Itoa(step), list, whole.Skip(taken)...)
			expect(t, "all came", w, nil)
		}
	}
}

func TestSoonest(t *testing.T) {
	for _, c := range []struct {
		name   string
		timers map[int]int
		want   int
		ok     bool
	}{
		{"none", nil, 0, false},
		{"one", map[int]int{9: 1}, 1, true},
		{"one with the most", map[int]int{9: 10000}, 10000, true},
		{"the first one", map[int]int{0: 3, 1: 4, 15: 5}, 3, true},
		{"the last one", map[int]int{0: 5, 1: 4, 15: 3}, 3, true},
		{"one between", map[int]int{0: 5, 8: 2, 15: 5}, 2, true},
		{"equal ones", map[int]int{2: 7, 3: 7}, 7, true},
		{"equal ones, and one more", map[int]int{2: 7, 3: 7, 4: 8}, 7, true},
		{"all equal", allAt(10000), 10000, true},
	} {
		w := with(t, c.timers)
		if got, ok := w.Soonest(); got != c.want || ok != c.ok {
			t.Errorf("%s: Soonest = %d, %v, want %d, %v", c.name, got, ok, c.want, c.ok)
		}
		expect(t, c.name+", and nothing is changed", w, c.timers)
	}
}

// TestSoonestAndLen follows both from call to call.
func TestSoonestAndLen(t *testing.T) {
	w := New()
	for _, c := range []struct {
		name    string
		do      func()
		soonest int
		set     int
	}{
		{"none is set", func() {}, 0, 0},
		{"Set", func() { w.Set(3, 40) }, 40, 1},
		{"Set of another one, sooner", func() { w.Set(15, 20) }, 20, 2},
		{"Set of another one, later", func() { w.Set(0, 50) }, 20, 3},
		{"Set anew, as it was", func() { w.Set(15, 20) }, 20, 3},
		{"Set anew, later", func() { w.Set(15, 60) }, 40, 3},
		{"Set anew, sooner", func() { w.Set(0, 10) }, 10, 3},
		{"Set that is refused", func() { w.Set(0, 10001); w.Set(16, 1); w.Set(-1, 1); w.Set(5, 0) }, 10, 3},
		{"Tick", func() { w.Tick() }, 9, 3},
		{"Cancel of the soonest", func() { w.Cancel(0) }, 39, 2},
		{"Cancel of one that isn't set", func() { w.Cancel(0); w.Cancel(1); w.Cancel(-1); w.Cancel(16) }, 39, 2},
		{"Skip of none", func() { w.Skip(0); w.Skip(-1) }, 39, 2},
		{"Skip, ahead of the soonest", func() { w.Skip(38) }, 1, 2},
		{"Tick, and one comes", func() { w.Tick() }, 20, 1},
		{"one like it", func() { w.Set(7, 20) }, 20, 2},
		{"Skip, and both come", func() { w.Skip(20) }, 0, 0},
		{"Tick of none", func() { w.Tick() }, 0, 0},
		{"Cancel of one that came", func() { w.Cancel(7) }, 0, 0},
	} {
		c.do()
		if got, ok := w.Soonest(); got != c.soonest || ok != (c.soonest > 0) {
			t.Errorf("%s: Soonest = %d, %v, want %d", c.name, got, ok, c.soonest)
		}
		if n := w.Len(); n != c.set {
			t.Errorf("%s: Len = %d, want %d", c.name, n, c.set)
		}
	}
}

func TestLenOfOneToSixteen(t *testing.T) {
	w := New()
	for n, id := range []int{15, 3, 8, 0, 1, 14, 2, 13, 4, 12, 5, 11, 6, 10, 7, 9} {
		w.Set(id, 100*(n+1))
		w.Set(id, 100*(n+1))
		if got := w.Len(); got != n+1 {
			t.Errorf("%d are set: Len = %d", n+1, got)
		}
	}
	for n := 15; n >= 0; n-- {
		w.Skip(100)
		if got := w.Len(); got != n {
			t.Errorf("%d are still set: Len = %d", n, got)
		}
	}
}

// call is one call on a wheel and on its twin, which tells whether both answer the same.
type call struct {
	name string
	do   func(w *Wheel, p *twin) bool
}

func setCall(id, ticks int) call {
	return call{"Set " + strconv.Itoa(id) + " " + strconv.Itoa(ticks), func(w *Wheel, p *twin) bool { return w.Set(id, ticks) == p.set(id, ticks) }}
}

func cancelCall(id int) call {
	return call{"Cancel " + strconv.Itoa(id), func(w *Wheel, p *twin) bool { return w.Cancel(id) == p.cancel(id) }}
}

func tickCall() call {
	return call{"Tick", func(w *Wheel, p *twin) bool { return slices.Equal(w.Tick(), p.tick()) }}
}

func skipCall(n int) call {
	return call{"Skip " + strconv.Itoa(n), func(w *Wheel, p *twin) bool { return slices.Equal(w.Skip(n), p.skip(n)) }}
}

// run does the calls on w and p, and looks behind each.
func run(t *testing.T, w *Wheel, p *twin, calls []call) {
	t.Helper()
	for i, c := range calls {
		same := c.do(w, p)
		if same && lookAt(w) == lookOf(p.timers()) {
			continue
		}
		names := ""
		for _, done := range calls[max(0, i-20) : i+1] {
			names += ", " + done.name
		}
		t.Fatalf("the same answer: %v, and then %+v, want %+v, behind%s", same, lookAt(w), lookOf(p.timers()), names)
	}
}

// TestAllShortRuns holds all runs of up to four calls over fourteen against the twin.
func TestAllShortRuns(t *testing.T) {
	calls := []call{
		setCall(0, 1), setCall(0, 2), setCall(0, 3), setCall(15, 1), setCall(15, 2), setCall(0, 0), setCall(16, 1),
		cancelCall(0), cancelCall(15), cancelCall(-1), tickCall(), skipCall(0), skipCall(2), skipCall(3),
	}
	chosen := make([]call, 4)
	var choose func(at int)
	choose = func(at int) {
		if at == len(chosen) {
			run(t, New(), newTwin(), chosen)
			return
		}
		for _, c := range calls {
			chosen[at] = c
			choose(at + 1)
		}
	}
	choose(0)
}

// longRun is n calls in no order; most is about how many ticks its timers are set to.
func longRun(d *dice, n, most int) []call {
	list := []call{}
	for range n {
		switch d.roll(16) {
		case 0:
			list = append(list, setCall(noTimers()[d.roll(len(noTimers()))], 1+d.roll(most)))
		case 1:
			list = append(list, setCall(d.roll(16), wrongTicks()[d.roll(len(wrongTicks()))]))
		case 2, 3, 4, 5, 6:
			list = append(list, setCall(d.roll(16), 1+d.roll(most)))
		case 7, 8:
			list = append(list, cancelCall(d.roll(18)-1))
		case 9, 10, 11, 12:
			list = append(list, tickCall())
		default:
			list = append(list, skipCall(d.roll(most+2)-1))
		}
	}
	return list
}

func TestLongRuns(t *testing.T) {
	d := dice(8)
	for _, most := range []int{1, 2, 3, 5, 16, 17, 64, 300} {
		for range 20 {
			run(t, New(), newTwin(), longRun(&d, 400, most))
		}
	}
	run(t, New(), newTwin(), longRun(&d, 300, 10000))
}

// others does things with timers other than id, in no order.
func others(d *dice, w *Wheel, id int) {
	for range d.roll(4) {
		other := (id + 1 + d.roll(15)) % 16
		switch d.roll(5) {
		case 0:
			w.Cancel(other)
		case 1:
			w.Set(other, 10000-d.roll(3))
		case 2:
			w.Set(id, 10001)
		default:
			w.Set(other, 1+d.roll(9))
		}
	}
}

// TestOneComesWithJustThatTick holds P8.2, tick by tick.
func TestOneComesWithJustThatTick(t *testing.T) {
	d := dice(3)
	for _, id := range []int{0, 7, 15} {
		for _, ticks := range rightTicks() {
			w := New()
			others(&d, w, id)
			w.Set(id, ticks)
			for tick := 1; tick <= ticks+20; tick++ {
				others(&d, w, id)
				if came := slices.Contains(w.Tick(), id); came != (tick == ticks) {
					t.Fatalf("%d, set to %d: with tick %d: %v", id, ticks, tick, came)
				}
				if left := w.Left(id); left != max(ticks-tick, 0) {
					t.Fatalf("%d, set to %d: behind tick %d %d left", id, ticks, tick, left)
				}
			}
		}
	}
}

// TestOneComesWithJustThatTickOfSkips holds P8.2 while ticks are skipped, few and many at a time, and taken one by one between.
func TestOneComesWithJustThatTickOfSkips(t *testing.T) {
	d := dice(5)
	for _, id := range []int{0, 7, 15} {
		for _, ticks := range rightTicks() {
			for _, most := range []int{2, 3, 16, 64, 1000, 9999, 20001} {
				w := New()
				w.Set(id, ticks)
				comeBySkips(t, &d, w, id, ticks, most)
			}
		}
	}
}

// comeBySkips takes more ticks than id was set to, and tells what is wrong with when it comes.
func comeBySkips(t *testing.T, d *dice, w *Wheel, id, ticks, most int) {
	t.Helper()
	for tick := 0; tick < ticks+2*most; {
		others(d, w, id)
		n := d.roll(most)
		list := []int(nil)
		if n == 1 {
			list = w.Tick()
		} else {
			list = w.Skip(n)
		}
		want := 0
		if tick < ticks && ticks <= tick+n {
			want = 1
		}
		got := 0
		for _, came := range list {
			if came == id {
				got++
			}
		}
		if got != want {
			t.Fatalf("%d, set to %d: in ticks %d to %d it came %d times", id, ticks, tick+1, tick+n, got)
		}
		tick += n
		if left := w.Left(id); left != max(ticks-tick, 0) {
			t.Fatalf("%d, set to %d: behind tick %d %d left", id, ticks, tick, left)
		}
	}
}

// TestTheOrderWithinASkip holds P8.2 in one Skip: who has fewer ticks comes ahead, whatever its number.
func TestTheOrderWithinASkip(t *testing.T) {
	for _, ticks := range rightTicks() {
		for _, other := range rightTicks() {
			w := with(t, map[int]int{5: ticks, 2: other})
			want := []int{2, 5}
			if ticks < other {
				want = []int{5, 2}
			}
			came(t, "Skip, of "+strconv.Itoa(ticks)+" and "+strconv.Itoa(other), w.Skip(10000), want...)
		}
	}
}

// TestZeroValues: New isn't all that makes a wheel.
func TestZeroValues(t *testing.T) {
	var w Wheel
	expect(t, "zero values", &w, nil)
	came(t, "Tick", w.Tick())
	came(t, "Skip", w.Skip(math.MaxInt))
	if w.Cancel(0) || w.Cancel(15) {
		t.Error("Cancel of zero values")
	}
	d := dice(13)
	for range 20 {
		run(t, &Wheel{}, newTwin(), longRun(&d, 200, 20))
		run(t, new(Wheel), newTwin(), longRun(&d, 200, 5))
	}
}

// TestNil holds R2.
func TestNil(t *testing.T) {
	var none *Wheel
	for _, id := range slices.Concat(allTimers(), noTimers()) {
		for _, ticks := range slices.Concat(rightTicks(), wrongTicks()) {
			if none.Set(id, ticks) {
				t.Fatalf("Set(%d, %d)", id, ticks)
			}
		}
		if none.Cancel(id) || none.Left(id) != 0 {
			t.Errorf("Cancel and Left of %d", id)
		}
	}
	came(t, "Tick", none.Tick())
	for _, n := range skips() {
		came(t, "Skip", none.Skip(n))
	}
	if n, ok := none.Soonest(); n != 0 || ok {
		t.Errorf("Soonest = %d, %v", n, ok)
	}
	if n := none.Len(); n != 0 {
		t.Errorf("Len = %d", n)
	}
}

// TestWhatWasAnsweredStays holds R4: no answer of Tick and Skip shares memory with the wheel or with another answer.
func TestWhatWasAnsweredStays(t *testing.T) {
	w := with(t, map[int]int{1: 1, 2: 1, 3: 2, 4: 2, 5: 3, 6: 3, 7: 4, 8: 4, 9: 5})
	first, second, both := w.Tick(), w.Skip(1), w.Skip(2)
	stay := func(what string) {
		t.Helper()
		came(t, what+": the first", first, 1, 2)
		came(t, what+": the second", second, 3, 4)
		came(t, what+": the third", both, 5, 6, 7, 8)
	}
	stay("at once")
	for id := range 16 {
		w.Set(id, 1+id%2)
	}
	w.Tick()
	w.Cancel(1)
	w.Skip(math.MaxInt)
	stay("behind other calls")

	w.Set(12, 3)
	for i := range first {
		first[i] = 12
	}
	first = append(first[:1], 12, 12, 12)
	came(t, "the second, when the first was written to", second, 3, 4)
	came(t, "the third, when the first was written to", both, 5, 6, 7, 8)
	expect(t, "the wheel, when the first was written to", w, map[int]int{12: 3})
	came(t, "and it comes", w.Skip(3), 12)
}

// TestTwoWheels don't touch one another.
func TestTwoWheels(t *testing.T) {
	a, b := New(), New()
	a.Set(3, 2)
	expect(t, "the other one", b, nil)
	b.Set(3, 5)
	b.Set(4, 1)
	came(t, "Tick of the other one", b.Tick(), 4)
	expect(t, "the one", a, map[int]int{3: 2})
	b.Cancel(3)
	came(t, "Skip of the one", a.Skip(2), 3)
	expect(t, "the other one, at last", b, nil)
}

// TestEveryCallEnds holds P0 and R7: every call, at all chosen arguments, answers, and the same on a wheel like it.
func TestEveryCallEnds(t *testing.T) {
	for i, timers := range someWheels() {
		a, b := with(t, timers), with(t, timers)
		for _, id := range slices.Concat(allTimers(), noTimers()) {
			for _, ticks := range slices.Concat(rightTicks(), wrongTicks()) {
				if a.Set(id, ticks) != b.Set(id, ticks) || a.Left(id) != b.Left(id) {
					t.Fatalf("wheel %d: Set(%d, %d): two answers", i, id, ticks)
				}
			}
			if a.Cancel(id) != b.Cancel(id) || a.Left(id) != b.Left(id) {
				t.Fatalf("wheel %d: Cancel(%d): two answers", i, id)
			}
		}
		for _, n := range skips() {
			a.Set(n&15, 1+n&127)
			b.Set(n&15, 1+n&127)
			if !slices.Equal(a.Skip(n), b.Skip(n)) || !slices.Equal(a.Tick(), b.Tick()) || lookAt(a) != lookAt(b) {
				t.Fatalf("wheel %d: Skip(%d): two answers", i, n)
			}
		}
	}
}
