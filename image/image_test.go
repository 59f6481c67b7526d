package image

import (
	"math"
	"slices"
	"strings"
	"testing"

	"fugleman/api"
)

// ends are numbers at the ends of int and far beyond all limits, many with a number that may be in their lowest bits.
func ends() []int {
	return []int{
		math.MinInt, math.MinInt + 1, math.MinInt + 5, math.MinInt + 63, math.MinInt + 64, math.MinInt + 65,
		-1<<32 - 1, -1<<32 + 5, -1 << 32, -1 << 31, -65536 + 5, -65536, -256 + 5, -256, -128, -100,
		100, 127, 128, 255, 256, 256 + 5, 65536, 65536 + 5, 1<<31 - 1, 1 << 31, 1<<32 - 1, 1 << 32, 1<<32 + 5,
		math.MaxInt - 65, math.MaxInt - 64, math.MaxInt - 63, math.MaxInt - 15, math.MaxInt - 1, math.MaxInt,
	}
}

// numbers are all from a first one to a last one, and the ends.
func numbers(from, to int) []int {
	list := ends()
	for n := from; n <= to; n++ {
		list = append(list, n)
	}
	return list
}

// ramp tells a text of n bytes, from a first one on, each greater by step than the one ahead.
func ramp(n, first, step int) string {
	bytes := make([]byte, n)
	for i := range bytes {
		bytes[i] = byte(first + i*step)
	}
	return string(bytes)
}

// zeros tells n bytes 0.
func zeros(n int) string {
	return strings.Repeat("\x00", n)
}

// sized tells a directory of blocks of those sizes; the ID of each is its place.
func sized(sizes ...int) []api.Block {
	l := []api.Block{}
	for id, size := range sizes {
		l = append(l, api.Block{ID: id, Addr: (5*id + 3) % 32, Size: size, High: id%3 == 1})
	}
	return l
}

// placed tells spots at those places; the block of each is its number.
func placed(places ...int) []api.Spot {
	spots := []api.Spot{}
	for id, at := range places {
		spots = append(spots, api.Spot{Block: id, At: at})
	}
	return spots
}

// with tells the spots, with one more in that place.
func with(spots []api.Spot, i int, spot api.Spot) []api.Spot {
	return slices.Insert(slices.Clone(spots), i, spot)
}

// The plain ones below go by the words of the chapter, in another way: byte by byte, and with numbers that are brought near ahead of any sum.

func within(n, from, to int) bool {
	return from <= n && n <= to
}

// near tells a number from -1000 to 1000: farther off than any area and value of these tests is as good as anything beyond.
func near(n int) int {
	return min(max(n, -1000), 1000)
}

// plainBlock goes from the last block to the first one.
func plainBlock(blocks []api.Block, id int) (api.Block, bool) {
	found, some := api.Block{}, false
	for _, b := range slices.Backward(blocks) {
		if b.ID == id {
			found, some = b, true
		}
	}
	return found, some
}

// bytesOf lists a spot's bytes, one by one.
func bytesOf(spot api.Spot, blocks []api.Block) []int {
	list := []int{}
	block, _ := plainBlock(blocks, spot.Block)
	for n := range max(near(block.Size), 0) {
		list = append(list, near(spot.At)+n)
	}
	return list
}

// plainSpot goes from the last error that a spot may have to the first one, so that what stays is the first one.
func plainSpot(local int, spots []api.Spot, i int, blocks []api.Block, over bool) api.Errno {
	e := api.OK
	block, ok := plainBlock(blocks, spots[i].Block)
	own := bytesOf(spots[i], blocks)
	for _, n := range own {
		lies := n < local
		for _, ahead := range spots[:i] {
			lies = lies || slices.Contains(bytesOf(ahead, blocks), n)
		}
		if over && lies {
			e = api.ErrOver
		}
	}
	if !within(spots[i].At, 0, 64) || block.Size < 0 || slices.ContainsFunc(own, func(n int) bool { return !within(n, 0, 63) }) {
		e = api.ErrLong
	}
	for _, ahead := range spots[:i] {
		if ahead.Block == spots[i].Block {
			e = api.ErrTwice
		}
	}
	if !ok {
		e = api.ErrName
	}
	return e
}

// plainReach goes from the last spot to the first one.
func plainReach(spots []api.Spot, blocks []api.Block) (api.Errno, int) {
	e, at := api.OK, 0
	for i := len(spots) - 1; i >= 0; i-- {
		if one := plainSpot(0, spots, i, blocks, false); one != api.OK {
			e, at = one, i
		}
	}
	return e, at
}

func plainLay(local int, spots []api.Spot, blocks []api.Block) (api.Errno, int) {
	e, at := api.OK, 0
	for i := len(spots) - 1; i >= 0; i-- {
		if one := plainSpot(local, spots, i, blocks, true); one != api.OK {
			e, at = one, i
		}
	}
	if !within(local, 0, 64) {
		e, at = api.ErrLong, -1
	}
	return e, at
}

// plainInputs asks of each byte who wrote it last.
func plainInputs(local int, own string, spots []api.Spot, values []string) string {
	area := ""
	for n := range 64 {
		b := "\x00"
		if n < local && n < len(own) {
			b = own[n : n+1]
		}
		for i, value := range values {
			if i < len(spots) && within(n-near(spots[i].At), 0, len(value)-1) {
				b = value[n-near(spots[i].At):][:1]
			}
		}
		area += b
	}
	return area
}

// plainValue asks of each byte whether it is there.
func plainValue(area string, at, size int) string {
	bytes := []byte{}
	for n := range min(max(size, 0), 64) {
		if from := near(at) + n; within(from, 0, len(area)-1) {
			bytes = append(bytes, area[from])
		} else {
			bytes = append(bytes, 0)
		}
	}
	return string(bytes)
}

// plainPut asks of each byte whether the value reaches it.
func plainPut(area string, at int, value string) string {
	bytes := []byte{}
	for n := range len(area) {
		if from := n - near(at); within(from, 0, len(value)-1) {
			bytes = append(bytes, value[from])
		} else {
			bytes = append(bytes, area[n])
		}
	}
	return string(bytes)
}

// The checks below ask a call, and tell what it answers otherwise than it should.

func lay(t *testing.T, what string, local int, spots []api.Spot, blocks []api.Block, want api.Errno, wantAt int) {
	t.Helper()
	if e, at := Lay(local, spots, blocks); e != want || at != wantAt {
		t.Errorf("%s: Lay(%d, %v, %v) = %d, %d, want %d, %d", what, local, spots, blocks, e, at, want, wantAt)
	}
}

func reached(t *testing.T, what string, spots []api.Spot, blocks []api.Block, want api.Errno, wantAt int) {
	t.Helper()
	if e, at := Reach(spots, blocks); e != want || at != wantAt {
		t.Errorf("%s: Reach(%v, %v) = %d, %d, want %d, %d", what, spots, blocks, e, at, want, wantAt)
	}
}

// both asks Lay, without own bytes, and Reach: for spots that don't lie over one another they answer the same.
func both(t *testing.T, what string, spots []api.Spot, blocks []api.Block, want api.Errno, wantAt int) {
	t.Helper()
	lay(t, what, 0, spots, blocks, want, wantAt)
	reached(t, what, spots, blocks, want, wantAt)
}

// over asks both where a spot lies over another one: no error to Reach.
func over(t *testing.T, what string, local int, spots []api.Spot, blocks []api.Block, wantAt int) {
	t.Helper()
	lay(t, what, local, spots, blocks, api.ErrOver, wantAt)
	reached(t, what, spots, blocks, api.OK, 0)
}

func inputs(t *testing.T, what string, local int, own string, spots []api.Spot, values []string, want string) {
	t.Helper()
	if s := Inputs(local, own, spots, values); s != want {
		t.Errorf("%s: Inputs(%d, %q, %v, %q) = %q, want %q", what, local, own, spots, values, s, want)
	}
}

func value(t *testing.T, area string, at, size int, want string) {
	t.Helper()
	if s := Value(area, at, size); s != want {
		t.Errorf("Value(%q, %d, %d) = %q, want %q", area, at, size, s, want)
	}
}

func laid(t *testing.T, area string, at int, value, want string) {
	t.Helper()
	if s := Put(area, at, value); s != want {
		t.Errorf("Put(%q, %d, %q) = %q, want %q", area, at, value, s, want)
	}
}

func TestTheExample(t *testing.T) {
	blocks := []api.Block{{ID: 6, Addr: 1, Size: 8}}
	lay(t, "the example", 4, []api.Spot{{Block: 6, At: 2}}, blocks, api.ErrOver, 0)
}

func TestLayOfLocal(t *testing.T) {
	for _, local := range numbers(-1, 66) {
		e, at := api.OK, 0
		if !within(local, 0, 64) {
			e, at = api.ErrLong, -1
		}
		for _, blocks := range [][]api.Block{nil, {}, sized(8, 64, 1)} {
			lay(t, "no spots, nil", local, nil, blocks, e, at)
			lay(t, "no spots, empty", local, []api.Spot{}, blocks, e, at)
		}
	}
}

// faulty is a list of spots that has one error, at that one; of ErrOver Reach tells none.
type faulty struct {
	name   string
	spots  []api.Spot
	blocks []api.Block
	e      api.Errno
	at     int
}

// faults have each error at the first, a middle and the last spot of five, where the first three and the last are as they may be.
func faults() []faulty {
	list := []faulty{}
	blocks := append(sized(4, 8, 1, 16, 2), api.Block{ID: 20, Size: -1}, api.Block{ID: 21, Size: 65}, api.Block{ID: 22, Size: 64}, api.Block{ID: 23, Size: 12})
	right := placed(10, 20, 40, 44, 62)
	for _, c := range []struct {
		name string
		spot api.Spot
		e    api.Errno
	}{
		{"no such block", api.Spot{Block: 9, At: 30}, api.ErrName},
		{"no such block, below 0", api.Spot{Block: -1, At: 30}, api.ErrName},
		{"a place of -1", api.Spot{Block: 23, At: -1}, api.ErrLong},
		{"a place of 65", api.Spot{Block: 23, At: 65}, api.ErrLong},
		{"a last byte at 64", api.Spot{Block: 23, At: 53}, api.ErrLong},
		{"a size below 0", api.Spot{Block: 20, At: 30}, api.ErrLong},
		{"a size of 65", api.Spot{Block: 21, At: 0}, api.ErrLong},
		{"a size of 64 from 1 on", api.Spot{Block: 22, At: 1}, api.ErrLong},
	} {
		for i := range len(right) + 1 {
			list = append(list, faulty{c.name, with(right, i, c.spot), blocks, c.e, i})
		}
	}
	for i := range len(right) {
		for j := i + 1; j <= len(right); j++ {
			again := api.Spot{Block: right[i].Block, At: 30}
			list = append(list, faulty{"a block twice", with(right, j, again), blocks, api.ErrTwice, j})
		}
	}
	return list
}

func TestEachError(t *testing.T) {
	blocks := append(sized(4, 8, 1, 16, 2), api.Block{ID: 23, Size: 2})
	right := placed(10, 20, 40, 44, 62)
	both(t, "as they may be", right, blocks, api.OK, 0)
	lay(t, "as they may be, behind own ones", 10, right, blocks, api.OK, 0)
	for _, c := range faults() {
		both(t, c.name, c.spots, c.blocks, c.e, c.at)
	}
	for i := range len(right) {
		for j := i + 1; j <= len(right); j++ {
			over(t, "over one ahead", 0, with(right, j, api.Spot{Block: 23, At: right[i].At}), blocks, j)
		}
		local := right[i].At + 1
		over(t, "over own ones", local, right[i:], blocks, 0)
	}
	// Only its place in the order tells which of two that lie over one another has the error.
	for i := range len(right) {
		spots := with(right, i, api.Spot{Block: 23, At: 61})
		over(t, "over one behind it", 0, spots, blocks, 5)
	}
}

// TestLocalComesFirst has each error of a spot besides.
func TestLocalComesFirst(t *testing.T) {
	for _, local := range append(ends(), -2, -1, 65, 66) {
		for _, c := range faults() {
			lay(t, c.name+", and local", local, c.spots, c.blocks, api.ErrLong, -1)
		}
		lay(t, "one over another, and local", local, placed(3, 4), sized(2, 2), api.ErrLong, -1)
		lay(t, "no directory, and local", local, placed(3, 4), nil, api.ErrLong, -1)
	}
}

func TestNoSuchBlock(t *testing.T) {
	for _, blocks := range [][]api.Block{nil, {}} {
		for _, id := range numbers(-2, 17) {
			both(t, "an empty directory", []api.Spot{{Block: id}}, blocks, api.ErrName, 0)
			both(t, "an empty directory, two spots", []api.Spot{{Block: id}, {Block: id}}, blocks, api.ErrName, 0)
		}
	}
	for _, id := range numbers(-2, 17) {
		blocks := []api.Block{{ID: 7, Addr: id, Size: 3}, {ID: id, Addr: 7, Size: 4}, {ID: 8, Addr: id, Size: 5}}
		both(t, "a block of any number", []api.Spot{{Block: id, At: 60}}, blocks[1:2], api.OK, 0)
		both(t, "a block of any number, among others", []api.Spot{{Block: id, At: 60}}, blocks[1:], api.OK, 0)
		if !within(id, 7, 8) {
			both(t, "no such block", []api.Spot{{Block: 7, At: 1}, {Block: id, At: 60}}, []api.Block{blocks[0], blocks[2]}, api.ErrName, 1)
		}
	}
	// Neither an address nor a size nor a place in the directory is a block's number.
	blocks := []api.Block{{ID: 5, Addr: 6, Size: 7}, {ID: 4, Addr: 8, Size: 9}}
	for id := -1; id <= 20; id++ {
		want := api.ErrName
		if id == 4 || id == 5 {
			want = api.OK
		}
		both(t, "by the number alone", []api.Spot{{Block: id}}, blocks, want, 0)
	}
}

// TestEachPlaceAndSize goes through all places and sizes of one spot.
func TestEachPlaceAndSize(t *testing.T) {
	for _, size := range numbers(-2, 67) {
		blocks := []api.Block{{ID: 1, Size: 1}, {ID: 3, Size: size}}
		for _, at := range numbers(-66, 67) {
			want := api.ErrLong
			if within(at, 0, 64) && within(size, 0, 64) && within(at+size, 0, 64) {
				want = api.OK
			}
			both(t, "one spot", []api.Spot{{Block: 3, At: at}}, blocks, want, 0)
		}
	}
	for _, c := range []struct {
		at, size int
		want     api.Errno
	}{
		{0, 64, api.OK}, {0, 65, api.ErrLong}, {1, 63, api.OK}, {1, 64, api.ErrLong}, {63, 1, api.OK}, {63, 2, api.ErrLong}, {56, 8, api.OK}, {57, 8, api.ErrLong},
		{64, 0, api.OK}, {64, 1, api.ErrLong}, {65, 0, api.ErrLong}, {-1, 0, api.ErrLong}, {-1, 1, api.ErrLong}, {0, 0, api.OK}, {0, -1, api.ErrLong}, {64, -1, api.ErrLong},
		{64, math.MinInt, api.ErrLong}, {64, math.MaxInt, api.ErrLong}, {0, math.MaxInt, api.ErrLong}, {1, math.MaxInt, api.ErrLong}, {0, math.MinInt, api.ErrLong},
		{math.MaxInt, math.MinInt, api.ErrLong}, {math.MinInt, math.MaxInt, api.ErrLong}, {math.MaxInt, math.MaxInt, api.ErrLong}, {math.MinInt, math.MinInt, api.ErrLong},
		{math.MaxInt, 1, api.ErrLong}, {math.MaxInt, 0, api.ErrLong}, {math.MinInt, 0, api.ErrLong}, {-5, 10, api.ErrLong}, {70, -10, api.ErrLong},
	} {
		both(t, "written out", []api.Spot{{Block: 0, At: c.at}}, sized(c.size), c.want, 0)
	}
}

// TestOverOwnOnes goes through all places and sizes that may be, with each number of own bytes.
func TestOverOwnOnes(t *testing.T) {
	for local := range 65 {
		for at := range 65 {
			for size := range 65 - at {
				if size > 0 && at < local {
					over(t, "over own ones", local, placed(at), sized(size), 0)
				} else {
					lay(t, "behind own ones", local, placed(at), sized(size), api.OK, 0)
				}
			}
		}
	}
}

// TestOverOneAhead goes through all places and sizes that may be of two spots.
func TestOverOneAhead(t *testing.T) {
	for at := range 65 {
		for size := range 65 - at {
			for other := range 65 {
				for more := range 65 - other {
					spots, blocks := [2]api.Spot{{Block: 0, At: at}, {Block: 1, At: other}}, [2]api.Block{{ID: 0, Size: size}, {ID: 1, Size: more}}
					want, wantAt := api.OK, 0
					if min(at+size, other+more) > max(at, other) {
						want, wantAt = api.ErrOver, 1
					}
					if size == 0 || more == 0 {
						want, wantAt = api.OK, 0
					}
					lay(t, "two", 0, spots[:], blocks[:], want, wantAt)
				}
			}
		}
	}
}

func TestOverWrittenOut(t *testing.T) {
	blocks := sized(8, 4, 1, 64, 0)
	for _, c := range []struct {
		name  string
		local int
		spots []api.Spot
		at    int // -1: no error
	}{
		{"a byte of own ones", 4, []api.Spot{{Block: 0, At: 3}}, 0},
		{"side by side with own ones", 4, []api.Spot{{Block: 0, At: 4}}, -1},
		{"all of own ones", 8, []api.Spot{{Block: 0, At: 0}}, 0},
		{"in the midst of own ones", 20, []api.Spot{{Block: 0, At: 5}}, 0},
		{"own ones in the midst", 5, []api.Spot{{Block: 3, At: 0}}, 0},
		{"the last own one", 64, []api.Spot{{Block: 2, At: 63}}, 0},
		{"the first own one", 1, []api.Spot{{Block: 2, At: 0}}, 0},
		{"64 own ones, and a value without bytes", 64, []api.Spot{{Block: 4, At: 0}, {Block: 4, At: 64}}[:1], -1},
		{"in front of one ahead, by a byte", 0, []api.Spot{{Block: 0, At: 20}, {Block: 1, At: 17}}, 1},
		{"in front of one ahead, side by side", 0, []api.Spot{{Block: 0, At: 20}, {Block: 1, At: 16}}, -1},
		{"behind one ahead, by a byte", 0, []api.Spot{{Block: 0, At: 20}, {Block: 1, At: 27}}, 1},
		{"behind one ahead, side by side", 0, []api.Spot{{Block: 0, At: 20}, {Block: 1, At: 28}}, -1},
		{"in the midst of one ahead", 0, []api.Spot{{Block: 0, At: 20}, {Block: 2, At: 24}}, 1},
		{"one ahead in the midst", 0, []api.Spot{{Block: 2, At: 24}, {Block: 0, At: 20}}, 1},
		{"all of one ahead", 0, []api.Spot{{Block: 3, At: 0}, {Block: 2, At: 63}}, 1},
		{"one ahead, and all of the area", 0, []api.Spot{{Block: 2, At: 63}, {Block: 3, At: 0}}, 1},
		{"the first of two ahead", 0, []api.Spot{{Block: 0, At: 20}, {Block: 1, At: 50}, {Block: 2, At: 20}}, 2},
		{"the second of two ahead", 0, []api.Spot{{Block: 0, At: 20}, {Block: 1, At: 50}, {Block: 2, At: 53}}, 2},
		{"both of two ahead", 0, []api.Spot{{Block: 1, At: 20}, {Block: 2, At: 25}, {Block: 0, At: 19}}, 2},
		{"between two ahead", 0, []api.Spot{{Block: 1, At: 20}, {Block: 2, At: 32}, {Block: 0, At: 24}}, -1},
		{"own ones and one ahead", 5, []api.Spot{{Block: 1, At: 7}, {Block: 0, At: 4}}, 1},
		{"a value without bytes in the midst of another", 0, []api.Spot{{Block: 0, At: 20}, {Block: 4, At: 24}}, -1},
		{"a value around one without bytes", 0, []api.Spot{{Block: 4, At: 24}, {Block: 0, At: 20}}, -1},
		{"a value without bytes behind the area's end", 64, []api.Spot{{Block: 4, At: 64}}, -1},
	} {
		if c.at < 0 {
			lay(t, c.name, c.local, c.spots, blocks, api.OK, 0)
			reached(t, c.name, c.spots, blocks, api.OK, 0)
		} else {
			over(t, c.name, c.local, c.spots, blocks, c.at)
		}
	}
}

// TestWhichErrorOfASpotComesFirst has spots with several errors, each two of them that one may have.
func TestWhichErrorOfASpotComesFirst(t *testing.T) {
	blocks := append(sized(8, 8, 64), api.Block{ID: 20, Size: -1}, api.Block{ID: 21, Size: 65}, api.Block{ID: 22, Size: math.MaxInt})
	ahead := api.Spot{Block: 0, At: 56}
	for _, c := range []struct {
		name  string
		local int
		spots []api.Spot
		lay   api.Errno
		reach api.Errno
		at    int
	}{
		{"ErrName and ErrTwice: the first one of the two has ErrName", 0, []api.Spot{{Block: 9, At: 1}, {Block: 9, At: 2}}, api.ErrName, api.ErrName, 0},
		{"ErrName and ErrLong", 0, []api.Spot{ahead, {Block: 9, At: -1}}, api.ErrName, api.ErrName, 1},
		{"ErrName and ErrLong", 0, []api.Spot{ahead, {Block: 9, At: 65}}, api.ErrName, api.ErrName, 1},
		{"ErrName and ErrOver, as it were", 0, []api.Spot{ahead, {Block: 9, At: 57}}, api.ErrName, api.ErrName, 1},
		{"ErrName and ErrOver with own ones, as it were", 8, []api.Spot{ahead, {Block: 9, At: 0}}, api.ErrName, api.ErrName, 1},
		{"ErrTwice and ErrLong by the place", 0, []api.Spot{ahead, {Block: 0, At: 65}}, api.ErrTwice, api.ErrTwice, 1},
		{"ErrTwice and ErrLong by the place", 0, []api.Spot{ahead, {Block: 0, At: -1}}, api.ErrTwice, api.ErrTwice, 1},
		{"ErrTwice and ErrLong by the last byte", 0, []api.Spot{{Block: 0, At: 1}, {Block: 0, At: 57}}, api.ErrTwice, api.ErrTwice, 1},
		{"ErrTwice and ErrOver", 0, []api.Spot{ahead, ahead}, api.ErrTwice, api.ErrTwice, 1},
		{"ErrTwice and ErrOver", 0, []api.Spot{ahead, {Block: 0, At: 50}}, api.ErrTwice, api.ErrTwice, 1},
		{"ErrTwice and ErrOver with own ones", 9, []api.Spot{ahead, {Block: 0, At: 8}}, api.ErrTwice, api.ErrTwice, 1},
		{"ErrTwice, ErrLong and ErrOver", 0, []api.Spot{ahead, {Block: 0, At: 57}}, api.ErrTwice, api.ErrTwice, 1},
		{"ErrLong and ErrOver", 0, []api.Spot{ahead, {Block: 1, At: 57}}, api.ErrLong, api.ErrLong, 1},
		{"ErrLong and ErrOver", 0, []api.Spot{ahead, {Block: 2, At: 1}}, api.ErrLong, api.ErrLong, 1},
		{"ErrLong and ErrOver with own ones", 8, []api.Spot{ahead, {Block: 1, At: -1}}, api.ErrLong, api.ErrLong, 1},
		{"ErrLong by the size and ErrOver with own ones", 8, []api.Spot{ahead, {Block: 21, At: 0}}, api.ErrLong, api.ErrLong, 1},
		{"ErrLong by the greatest size and ErrOver", 8, []api.Spot{ahead, {Block: 22, At: 0}}, api.ErrLong, api.ErrLong, 1},
		{"ErrLong by a size below 0, upon one ahead", 8, []api.Spot{ahead, {Block: 20, At: 57}}, api.ErrLong, api.ErrLong, 1},
		{"ErrLong by a size below 0, upon own ones", 8, []api.Spot{ahead, {Block: 20, At: 4}}, api.ErrLong, api.ErrLong, 1},
		{"ErrOver alone", 8, []api.Spot{ahead, {Block: 1, At: 7}}, api.ErrOver, api.OK, 1},
	} {
		lay(t, c.name, c.local, c.spots, blocks, c.lay, c.at)
		if c.reach == api.OK {
			reached(t, c.name, c.spots, blocks, api.OK, 0)
		} else {
			reached(t, c.name, c.spots, blocks, c.reach, c.at)
		}
	}
}

// TestWhichSpotComesFirst has two errors at each pair of places among others that may be.
func TestWhichSpotComesFirst(t *testing.T) {
	blocks := append(sized(4, 8, 1, 16), api.Block{ID: 5, Size: 2}, api.Block{ID: 6, Size: 2}, api.Block{ID: 7, Size: 2})
	right := placed(10, 20, 40, 44)
	marks := func(k int) []struct {
		spot api.Spot
		e    api.Errno
	} {
		return []struct {
			spot api.Spot
			e    api.Errno
		}{
			{api.Spot{Block: 9 + k, At: 30}, api.ErrName},
			{api.Spot{Block: 0, At: 30 + 4*k}, api.ErrTwice},
			{api.Spot{Block: 5 + k, At: 63}, api.ErrLong},
			{api.Spot{Block: 5 + k, At: 9}, api.ErrOver},
		}
	}
	for _, first := range marks(0) {
		for _, second := range marks(1) {
			for i := 1; i <= len(right); i++ {
				for j := i + 1; j <= len(right)+1; j++ {
					spots := with(with(right, i, first.spot), j, second.spot)
					lay(t, "two errors", 0, spots, blocks, first.e, i)
					switch {
					case first.e != api.ErrOver:
						reached(t, "two errors", spots, blocks, first.e, i)
					case second.e != api.ErrOver:
						reached(t, "the second error alone", spots, blocks, second.e, j)
					default:
						reached(t, "no error", spots, blocks, api.OK, 0)
					}
				}
			}
		}
	}
}

// TestTwiceInTheDirectory: the first block of a number is the one.
func TestTwiceInTheDirectory(t *testing.T) {
	small, great := api.Block{ID: 3, Size: 2}, api.Block{ID: 3, Size: 10}
	other := api.Block{ID: 4, Size: 6}
	spots := []api.Spot{{Block: 3, At: 54}, {Block: 4, At: 58}}
	over(t, "the great one first", 0, spots, []api.Block{other, great, small}, 1)
	both(t, "the small one first", spots, []api.Block{small, great, other}, api.OK, 0)
	both(t, "the great one first, at the end", []api.Spot{{Block: 3, At: 55}}, []api.Block{great, small}, api.ErrLong, 0)
	both(t, "the small one first, at the end", []api.Spot{{Block: 3, At: 62}}, []api.Block{other, small, great}, api.OK, 0)
	both(t, "one that can't lie anywhere first", spots, []api.Block{{ID: 3, Size: 65}, small, other}, api.ErrLong, 0)
	both(t, "one that can't lie anywhere behind", spots, []api.Block{small, {ID: 3, Size: 65}, other}, api.OK, 0)
}

// TestDirectoriesThatMayNotBe: of a block its number and its size are asked for, and no more.
func TestDirectoriesThatMayNotBe(t *testing.T) {
	for _, n := range ends() {
		blocks := []api.Block{{ID: n, Addr: n, Size: 3}, {ID: 2, Addr: -n, Size: 4, High: true}, {ID: 1, Addr: n, Size: n}}
		spots := []api.Spot{{Block: n, At: 0}, {Block: 2, At: 3}}
		both(t, "any number and address", spots, blocks, api.OK, 0)
		over(t, "any number and address", 1, spots, blocks, 0)
		both(t, "any size", append(spots, api.Spot{Block: 1, At: 20}), blocks, api.ErrLong, 2)
	}
	many := sized(make([]int, 200)...)
	spots := []api.Spot{}
	for i := range many {
		if i < 64 {
			many[i].Size = 1
		}
		spots = append(spots, api.Spot{Block: i, At: min(i, 64)})
	}
	both(t, "more blocks and spots than may be", spots, many, api.OK, 0)
	over(t, "more blocks and spots than may be", 5, spots, many, 0)
	many[199].Size = 1
	both(t, "more than may be, the last one beyond", spots, many, api.ErrLong, 199)
	many[199].Size, spots[199].At = 2, 20
	over(t, "more than may be, the last one over others", 0, spots, many, 199)
}

// TestReachOverOneAnother: all spots may have one place.
func TestReachOverOneAnother(t *testing.T) {
	blocks := sized(64, 64, 1, 8, 0, 33, 17, 2, 3, 4, 5, 6, 7, 9, 10, 11)
	for n := range 17 {
		reached(t, "all from byte 0 on", placed(make([]int, n)...), blocks, api.OK, 0)
		for i := range n {
			spots := placed(make([]int, n)...)
			spots[i].Block = 16
			reached(t, "all but one", spots, blocks, api.ErrName, i)
			spots[i] = api.Spot{Block: i, At: 65}
			reached(t, "all but one", spots, blocks, api.ErrLong, i)
			if i > 0 {
				spots[i] = api.Spot{Block: i - 1}
				reached(t, "all but one", spots, blocks, api.ErrTwice, i)
			}
		}
	}
	for _, list := range [][]api.Spot{nil, {}} {
		for _, directory := range [][]api.Block{nil, {}, blocks} {
			reached(t, "no spots", list, directory, api.OK, 0)
		}
	}
}

func TestInputsOfOwnOnes(t *testing.T) {
	for _, local := range numbers(-1, 66) {
		for _, n := range []int{0, 1, 2, 3, 5, 31, 32, 33, 62, 63, 64, 65, 66, 70, 128, 1000} {
			own := ramp(n, 7, 3)
			kept := own[:min(max(local, 0), 64, n)]
			want := kept + zeros(64-len(kept))
			inputs(t, "own ones", local, own, nil, nil, want)
			inputs(t, "own ones", local, own, []api.Spot{}, []string{}, want)
			inputs(t, "own ones, and spots without values", local, own, placed(0, 1, 2), nil, want)
			inputs(t, "own ones, and values without spots", local, own, nil, []string{"abc", "d"}, want)
			inputs(t, "own ones, and values without bytes", local, own, placed(0, 1, 63), []string{"", "", ""}, want)
		}
	}
}

func TestInputsOfEachByte(t *testing.T) {
	for b := range 256 {
		own, one := ramp(64, b, 0), ramp(8, b, 1)
		inputs(t, "own ones", 64, own, nil, nil, own)
		inputs(t, "a value", 0, own, placed(20), []string{one}, zeros(20)+one+zeros(36))
		inputs(t, "a value over own ones", 64, own, placed(20), []string{one}, own[:20]+one+own[:36])
		inputs(t, "bytes 0 over own ones", 64, own, placed(20), []string{zeros(8)}, own[:20]+zeros(8)+own[:36])
	}
}

// TestInputsOfEachPlace has one value of each length at each place, over own bytes and beside them.
func TestInputsOfEachPlace(t *testing.T) {
	for _, at := range numbers(-70, 70) {
		for n := range 71 {
			value := ramp(n, 101, 1)
			for _, local := range []int{0, 9, 64} {
				own := ramp(64, 200, -1)
				want := plainInputs(local, own, placed(at), []string{value})
				inputs(t, "one value", local, own, placed(at), []string{value}, want)
			}
		}
	}
}

func TestInputsWrittenOut(t *testing.T) {
	long := ramp(100, 1, 1)
	for _, c := range []struct {
		name   string
		local  int
		own    string
		spots  []api.Spot
		values []string
		want   string // what is missing of 64 bytes is 0
	}{
		{"nothing", 0, "", nil, nil, ""},
		{"own ones beyond local", 3, "abcde", nil, nil, "abc"},
		{"fewer own ones than local", 5, "ab", placed(4), []string{"x"}, "ab\x00\x00x"},
		{"local below 0", -3, "abc", placed(1), []string{"x"}, "\x00x"},
		{"the later one stands", 0, "", placed(2, 3), []string{"abc", "xyz"}, "\x00\x00axyz"},
		{"the later one stands, in front", 0, "", placed(3, 2), []string{"xyz", "abc"}, "\x00\x00abcz"},
		{"a later one in the midst", 0, "", placed(0, 2), []string{"abcdef", "X"}, "abXdef"},
		{"three at one place", 0, "", placed(1, 1, 1), []string{"abc", "xy", "q"}, "\x00qyc"},
		{"over own ones", 6, "abcdef", placed(2), []string{"XY"}, "abXYef"},
		{"over the last own one, and beyond", 3, "abcdef", placed(2), []string{"XY"}, "abXY"},
		{"one that begins ahead of the area", 2, "ab", placed(-2), []string{"wxyz"}, "yz"},
		{"one that lies ahead of the area", 2, "ab", placed(-4), []string{"wxyz"}, "ab"},
		{"all at the least place", 2, "ab", placed(math.MinInt), []string{"wxyz"}, "ab"},
		{"all at the greatest place", 2, "ab", placed(math.MaxInt), []string{"wxyz"}, "ab"},
		{"one that ends behind the area", 0, "", placed(62), []string{"wxyz"}, zeros(62) + "wx"},
		{"one at the last byte", 0, "", placed(63), []string{"wxyz"}, zeros(63) + "w"},
		{"one that lies behind the area", 0, "", placed(64), []string{"wxyz"}, ""},
		{"one that is longer than the area", 0, "", placed(0), []string{long}, long[:64]},
		{"one that begins ahead and ends behind", 0, "", placed(-20), []string{long}, long[20:84]},
		{"one that is longer, from 5 on", 5, "abcde", placed(5), []string{long}, "abcde" + long[:59]},
		{"one without bytes", 3, "abc", placed(1), []string{""}, "abc"},
		{"a later one without bytes", 0, "", placed(1, 1), []string{"abc", ""}, "\x00abc"},
		{"fewer values than spots", 0, "", placed(1, 5, 9), []string{"a", "b"}, "\x00a\x00\x00\x00b"},
		{"more values than spots", 0, "", placed(1, 5), []string{"a", "b", "c"}, "\x00a\x00\x00\x00b"},
		{"more values than no spots", 1, "q", nil, []string{"a"}, "q"},
		{"a block twice", 0, "", []api.Spot{{Block: 3, At: 0}, {Block: 3, At: 2}}, []string{"ab", "cd"}, "abcd"},
		{"blocks of any number", 0, "", []api.Spot{{Block: -1, At: 2}, {Block: math.MaxInt, At: 0}}, []string{"ab", "cd"}, "cdab"},
		{"bytes, not runes", 4, "\u20ac\u20ac", placed(5), []string{"\u20ac"}, "\u20ac\xe2\x00\u20ac"},
	} {
		inputs(t, c.name, c.local, c.own, c.spots, c.values, c.want+zeros(64-len(c.want)))
	}
}

// TestValue goes through all areas of 0 to 70 bytes, all places and all sizes.
func TestValue(t *testing.T) {
	for _, c := range []struct {
		area     string
		at, size int
		want     string
	}{
		{"abcdef", 0, 6, "abcdef"}, {"abcdef", 2, 3, "cde"}, {"abcdef", 5, 1, "f"}, {"abcdef", 5, 3, "f\x00\x00"}, {"abcdef", 6, 2, "\x00\x00"}, {"abcdef", 7, 1, "\x00"},
		{"abcdef", -2, 4, "\x00\x00ab"}, {"abcdef", -2, 2, "\x00\x00"}, {"abcdef", -2, 10, "\x00\x00abcdef\x00\x00"}, {"abcdef", -64, 64, zeros(64)}, {"abcdef", -63, 64, zeros(63) + "a"},
		{"abcdef", 0, 0, ""}, {"abcdef", 0, -1, ""}, {"abcdef", 3, math.MinInt, ""}, {"abcdef", 3, math.MaxInt, "def" + zeros(61)}, {"abcdef", 3, 65, "def" + zeros(61)},
		{"abcdef", math.MinInt, 64, zeros(64)}, {"abcdef", math.MaxInt, 64, zeros(64)}, {"abcdef", math.MinInt, math.MaxInt, zeros(64)}, {"abcdef", math.MaxInt, math.MinInt, ""},
		{"", 0, 3, "\x00\x00\x00"}, {"", 0, 0, ""}, {"", -1, 2, "\x00\x00"}, {"\u20ac", 1, 2, "\x82\xac"}, {"a\x00b", 0, 4, "a\x00b\x00"},
	} {
		value(t, c.area, c.at, c.size, c.want)
	}
	places, sizes := numbers(-70, 70), numbers(-1, 66)
	for n := range 71 {
		area := ramp(n, 91, 1)
		for _, at := range places {
			for _, size := range sizes {
				value(t, area, at, size, plainValue(area, at, size))
			}
		}
	}
}

// TestValueOfEachByte has bytes of every value, and areas that are longer by far.
func TestValueOfEachByte(t *testing.T) {
	long := ramp(1000, 0, 1)
	for at := range 256 {
		value(t, long, at, 64, long[at:at+64])
		value(t, long, at, 1, string([]byte{byte(at)}))
		value(t, long[:256], at, 100, (long[at:256] + zeros(64))[:64])
	}
	value(t, long, 990, 64, long[990:]+zeros(54))
	value(t, long, 1000, 64, zeros(64))
}

// TestPut goes through all areas and values of 0 to 70 bytes and all places.
func TestPut(t *testing.T) {
	for _, c := range []struct {
		area  string
		at    int
		value string
		want  string
	}{
		{"abcdef", 0, "xy", "xycdef"}, {"abcdef", 2, "xy", "abxyef"}, {"abcdef", 4, "xy", "abcdxy"}, {"abcdef", 5, "xy", "abcdex"}, {"abcdef", 6, "xy", "abcdef"}, {"abcdef", 7, "xy", "abcdef"},
		{"abcdef", -1, "xy", "ybcdef"}, {"abcdef", -2, "xy", "abcdef"}, {"abcdef", -3, "xy", "abcdef"}, {"abcdef", -1, "uvwxyz!?", "vwxyz!"}, {"abcdef", 0, "uvwxyz!?", "uvwxyz"},
		{"abcdef", math.MinInt, "xy", "abcdef"}, {"abcdef", math.MaxInt, "xy", "abcdef"}, {"abcdef", math.MinInt, "", "abcdef"}, {"abcdef", math.MaxInt, "", "abcdef"},
		{"abcdef", 0, "", "abcdef"}, {"abcdef", -1, "", "abcdef"}, {"", 0, "xy", ""}, {"", -1, "xy", ""}, {"", 0, "", ""}, {"", math.MinInt, "xy", ""},
		{"abcdef", 1, "\x00\xff", "a\x00\xffdef"}, {"\u20ac\u20ac", 2, "xy", "\xe2\x82xy\x82\xac"},
	} {
		laid(t, c.area, c.at, c.value, c.want)
	}
	places := numbers(-70, 70)
	for n := range 71 {
		area := ramp(n, 1, 1)
		for size := range 71 {
			value := ramp(size, 100, 1)
			for _, at := range places {
				laid(t, area, at, value, plainPut(area, at, value))
			}
		}
	}
}

// TestPutOfEachByte has bytes of every value, and areas and values that are longer by far.
func TestPutOfEachByte(t *testing.T) {
	long := ramp(1000, 0, 1)
	for b := range 256 {
		one := ramp(3, b, 0)
		laid(t, long[:64], 30, one, long[:30]+one+long[33:64])
		laid(t, one, 1, long[b:b+1], one[:1]+long[b:b+1]+one[2:])
	}
	laid(t, long, 700, long, long[:700]+long[:300])
	laid(t, long, -700, long, long[700:]+long[300:])
	laid(t, "abc", -500, long, long[500:503])
	laid(t, long, 998, "xyz", long[:998]+"xy")
}

// TestValueOfWhatWasPut: what is put where all of it lies is there as it is, and all else as it was.
func TestValueOfWhatWasPut(t *testing.T) {
	area := ramp(64, 3, 5)
	for at := range 65 {
		for n := range 65 - at {
			one := ramp(n, 77, 7)
			changed := Put(area, at, one)
			value(t, changed, at, n, one)
			value(t, changed, 0, at, area[:at])
			value(t, changed, at+n, 64-at-n, area[at+n:])
		}
	}
}

// dice draws numbers, the same ones each time.
type dice uint32

func (d *dice) roll(below int) int {
	*d = *d*1664525 + 1013904223
	return int(*d>>8) % below
}

// number draws one from the first to the last; of so many one is an end instead.
func (d *dice) number(from, to, rare int) int {
	if d.roll(rare) == 0 {
		return ends()[d.roll(len(ends()))]
	}
	return from + d.roll(to-from+1)
}

// text draws one of n bytes.
func (d *dice) text(n int) string {
	bytes := make([]byte, n)
	for i := range bytes {
		bytes[i] = byte(d.roll(256))
	}
	return string(bytes)
}

// shuffled tells a list's items in any order.
func shuffled[T any](d *dice, list []T) []T {
	list = slices.Clone(list)
	for i := range list {
		j := i + d.roll(len(list)-i)
		list[i], list[j] = list[j], list[i]
	}
	return list
}

// cutUp draws own bytes and spots that may lie as they do: an area cut up into pieces, some of which nobody has.
func (d *dice) cutUp() (int, []api.Spot, []api.Block) {
	local := d.roll(20) * d.roll(2)
	ids := shuffled(d, []int{0, 1, 2, 3, 4, 5, 6, 7, 8, 9, 10, 11, 12, 13, 14, 15})
	spots, blocks, most := []api.Spot{}, []api.Block{}, 1+d.roll(64)
	for at := local; at < 64 && len(blocks) < 16; {
		at += d.roll(4) * d.roll(2)
		size := min(1+d.roll(most), 64-at)
		if size < 1 {
			break
		}
		id := ids[len(blocks)]
		blocks = append(blocks, api.Block{ID: id, Addr: d.roll(32), Size: size, High: d.roll(2) == 0})
		if d.roll(5) > 0 {
			spots = append(spots, api.Spot{Block: id, At: at})
		}
		at += size
	}
	return local, shuffled(d, spots), shuffled(d, blocks)
}

// loose draws own bytes, spots and a directory, of which each number may be wrong.
func (d *dice) loose() (int, []api.Spot, []api.Block) {
	rare := 5 + d.roll(300)
	most := 2 + d.roll(64)
	spots, blocks := []api.Spot{}, []api.Block{}
	for range d.roll(20) {
		blocks = append(blocks, api.Block{ID: d.number(-1, 16, rare), Addr: d.number(-1, 32, rare), Size: d.number(0, most, rare), High: d.roll(2) == 0})
	}
	for range d.roll(6) {
		id := d.number(-1, 16, rare)
		if len(blocks) > 0 && d.roll(10) > 0 {
			id = blocks[d.roll(len(blocks))].ID
		}
		spots = append(spots, api.Spot{Block: id, At: d.number(-1, 65, rare)})
	}
	return d.number(-1, 20, rare), spots, blocks
}

// TestDrawnSpots holds many of them against the second way, and looks that all sorts of them came.
func TestDrawnSpots(t *testing.T) {
	d, laid, reach := dice(19), map[api.Errno]int{}, map[api.Errno]int{}
	for n := range 24000 {
		local, spots, blocks := d.loose()
		if n%3 == 0 {
			local, spots, blocks = d.cutUp()
		}
		if n%6 == 0 && len(spots) > 0 {
			spots[d.roll(len(spots))].At = d.number(-1, 65, 10)
		}
		e, at := plainLay(local, spots, blocks)
		laid[e]++
		lay(t, "drawn", local, spots, blocks, e, at)
		e, at = plainReach(spots, blocks)
		reach[e]++
		reached(t, "drawn", spots, blocks, e, at)
	}
	for _, e := range []api.Errno{api.OK, api.ErrName, api.ErrTwice, api.ErrLong, api.ErrOver} {
		if laid[e] < 500 || e != api.ErrOver && reach[e] < 500 {
			t.Errorf("%d came %d and %d times only", e, laid[e], reach[e])
		}
	}
	if reach[api.ErrOver] > 0 {
		t.Errorf("ErrOver came %d times, of Reach", reach[api.ErrOver])
	}
}

// TestAllShortLists goes through all lists of up to three spots out of some, with some numbers of own bytes.
func TestAllShortLists(t *testing.T) {
	blocks := []api.Block{{ID: 1, Size: 2}, {ID: 2, Size: 3}, {ID: 3, Size: 64}, {ID: 4}, {ID: 5, Size: -1}, {ID: 2, Size: 60}, {ID: 6, Size: 65}}
	some := []api.Spot{}
	for _, id := range []int{0, 1, 2, 3, 4, 5, 6} {
		for _, at := range []int{0, 1, 2, 62} {
			some = append(some, api.Spot{Block: id, At: at})
		}
	}
	some = append(some, api.Spot{Block: 1, At: -1}, api.Spot{Block: 1, At: 63}, api.Spot{Block: 4, At: 64}, api.Spot{Block: 4, At: 65}, api.Spot{Block: 2, At: math.MaxInt}, api.Spot{Block: 2, At: math.MinInt})
	lists := [][]api.Spot{nil}
	for i := 0; i < len(lists); i++ {
		l := lists[i]
		for _, local := range []int{-1, 0, 2} {
			e, at := plainLay(local, l, blocks)
			lay(t, "short", local, l, blocks, e, at)
		}
		e, at := plainReach(l, blocks)
		reached(t, "short", l, blocks, e, at)
		for _, spot := range some {
			if len(l) < 3 {
				lists = append(lists, with(l, len(l), spot))
			}
		}
	}
}

// TestDrawnInputs holds many areas against the second way, byte by byte.
func TestDrawnInputs(t *testing.T) {
	d := dice(1)
	for range 30000 {
		rare := 3 + d.roll(100)
		spots, values := []api.Spot{}, []string{}
		for range d.roll(9) {
			spots = append(spots, api.Spot{Block: d.number(-1, 16, rare), At: d.number(-70, 70, rare)})
		}
		for range d.roll(9) {
			values = append(values, d.text(d.roll(1+d.roll(80))))
		}
		local, own := d.number(-1, 66, rare), d.text(d.roll(80))
		inputs(t, "drawn", local, own, spots, values, plainInputs(local, own, spots, values))
	}
}

// TestDrawnAreas puts many values one behind the other, and asks for many.
func TestDrawnAreas(t *testing.T) {
	d := dice(2)
	for range 1000 {
		area := d.text(d.roll(71))
		for range 30 {
			at, one := d.number(-70, 70, 20), d.text(d.roll(71))
			want := plainPut(area, at, one)
			laid(t, area, at, one, want)
			area = want
			at, size := d.number(-70, 70, 20), d.number(-1, 66, 20)
			value(t, area, at, size, plainValue(area, at, size))
		}
	}
}

// TestEachStandsAsItIs holds P19.2: where Lay answers OK each value stands in the inputs as it is, and so do the own ones; all else is 0.
func TestEachStandsAsItIs(t *testing.T) {
	d, full := dice(192), 0
	for n := range 60000 {
		local, spots, blocks := d.cutUp()
		if n%2 == 0 {
			local, spots, blocks = d.loose()
		}
		if e, _ := Lay(local, spots, blocks); e != api.OK {
			if n%2 == 1 {
				t.Fatalf("Lay(%d, %v, %v) = %d", local, spots, blocks, e)
			}
			continue
		}
		own, values := d.text(local+d.roll(2)*d.roll(80)), []string{}
		for _, spot := range spots {
			block, _ := plainBlock(blocks, spot.Block)
			values = append(values, d.text(block.Size))
		}
		area := Inputs(local, own, spots, values)
		if len(area) != 64 {
			t.Fatalf("%d bytes", len(area))
		}
		if area[:local] != own[:local] {
			t.Errorf("%q: not own ones %q", area, own[:local])
		}
		rest := []byte(area)
		clear(rest[:local])
		for i, spot := range spots {
			end := spot.At + len(values[i])
			if area[spot.At:end] != values[i] {
				t.Errorf("%q: not %q at %d", area, values[i], spot.At)
			}
			value(t, area, spot.At, len(values[i]), values[i])
			clear(rest[spot.At:end])
		}
		if string(rest) != zeros(64) {
			t.Errorf("%q: %q, where nobody wrote", area, rest)
		}
		if len(spots) > 3 {
			full++
		}
	}
	if full < 5000 {
		t.Errorf("more than three spots came %d times only", full)
	}
}

// TestEveryCallEnds holds P0 and R7: each call answers at all arguments, and the same once more.
func TestEveryCallEnds(t *testing.T) {
	d := dice(0)
	texts := []string{"", "\xff\xfe", "\x00", strings.Repeat("\xed\xa0\x80", 21), strings.Repeat("x", 1<<16), ramp(64, 128, 1)}
	for range 300 {
		_, spots, blocks := d.loose()
		if d.roll(3) == 0 {
			spots = make([]api.Spot, d.roll(3000))
		}
		if d.roll(3) == 0 {
			blocks = make([]api.Block, d.roll(3000))
		}
		for _, n := range ends() {
			e, at := Lay(n, spots, blocks)
			lay(t, "once more", n, slices.Clone(spots), slices.Clone(blocks), e, at)
			reached, _ := Reach(spots, nil)
			if len(spots) > 0 != (reached == api.ErrName) {
				t.Errorf("%d spots, no blocks: %d", len(spots), reached)
			}
			s := Inputs(n, texts[d.roll(len(texts))], spots, texts)
			if len(s) != 64 {
				t.Errorf("%d bytes", len(s))
			}
		}
	}
	for _, area := range texts {
		for _, at := range numbers(-1, 1) {
			for _, n := range numbers(-1, 1) {
				if s := Value(area, at, n); s != Value(strings.Clone(area), at, n) || len(s) != min(max(n, 0), 64) {
					t.Errorf("Value(.., %d, %d) = %q", at, n, s)
				}
			}
			for _, one := range texts {
				if s := Put(area, at, one); s != Put(strings.Clone(area), at, strings.Clone(one)) || len(s) != len(area) {
					t.Errorf("Put of %d bytes at %d: %d bytes, not %d", len(one), at, len(s), len(area))
				}
			}
		}
	}
	for _, local := range numbers(-1, 66) {
		lay(t, "nil", local, nil, nil, plainErr(local), plainAt(local))
		inputs(t, "nil", local, "", nil, nil, zeros(64))
	}
	reached(t, "nil", nil, nil, api.OK, 0)
}

// plainErr and plainAt tell what Lay answers without any spot.
func plainErr(local int) api.Errno {
	e, _ := plainLay(local, nil, nil)
	return e
}

func plainAt(local int) int {
	_, at := plainLay(local, nil, nil)
	return at
}

// TestWhatIsGivenStaysAsItIs holds R4 for lists and for what lies behind their ends.
func TestWhatIsGivenStaysAsItIs(t *testing.T) {
	d := dice(4)
	for range 3000 {
		local, allSpots, allBlocks := d.loose()
		if d.roll(2) == 0 {
			local, allSpots, allBlocks = d.cutUp()
		}
		allValues := []string{}
		for range 20 {
			allValues = append(allValues, d.text(d.roll(20)))
		}
		keptSpots, keptBlocks, keptValues := slices.Clone(allSpots), slices.Clone(allBlocks), slices.Clone(allValues)
		spots, blocks, values := allSpots[:d.roll(len(allSpots)+1)], allBlocks[:d.roll(len(allBlocks)+1)], allValues[:d.roll(10)]
		Lay(local, spots, blocks)
		Lay(local, allSpots, allBlocks)
		Reach(spots, blocks)
		Inputs(local, allValues[0], spots, values)
		Inputs(local, allValues[0], allSpots, values)
		if !slices.Equal(allSpots, keptSpots) || !slices.Equal(allBlocks, keptBlocks) || !slices.Equal(allValues, keptValues) {
			t.Fatalf("%v, %v, %q\nwere %v, %v, %q", allSpots, allBlocks, allValues, keptSpots, keptBlocks, keptValues)
		}
	}
}

// TestWhatWasAnsweredStays holds P0: no later call, and nothing done with what was given or with what an answer was made to, changes an answer.
func TestWhatWasAnsweredStays(t *testing.T) {
	d := dice(5)
	answers, want := []string{}, []string{}
	spots, values := placed(1, 9, 30, 62), []string{"abc", "defgh", ramp(20, 1, 1), "xyz"}
	for n := range 200 {
		area, one := d.text(d.roll(71)), d.text(d.roll(71))
		at, size := d.number(-70, 70, 9), d.number(-1, 66, 9)
		spots[n%4].At, values[n%4] = at, one
		answers = append(answers, Inputs(size, area, spots, values), Value(area, at, size), Put(area, at, one), Put(area, at, ""), Put(area, 0, area), Value(area, 0, len(area)))
		want = append(want, plainInputs(size, area, spots, values), plainValue(area, at, size), plainPut(area, at, one), area, area, plainValue(area, 0, len(area)))
		for _, s := range answers[len(answers)-6:] {
			bytes := []byte(s)
			clear(bytes)
			_ = append(bytes, one...)
		}
	}
	clear(spots)
	clear(values)
	Lay(5, spots, sized(1))
	if !slices.Equal(answers, want) {
		t.Error("an answer is another one than it was")
	}
}
