package config

import (
	"math"
	"slices"
	"testing"

	"fugleman/api"
	"fugleman/blocks"
	"fugleman/image"
	"fugleman/verify"
)

// ends are numbers at the ends of int and far beyond all limits, many with a number that may be in their lowest bits.
func ends() []int {
	return []int{
		math.MinInt, math.MinInt + 1, math.MinInt + 5, math.MinInt + 32,
		-1<<32 - 1, -1<<32 + 5, -1 << 32, -1 << 31, -1<<16 + 5, -1 << 16, -256 + 5, -256, -128, -100,
		1 << 16, 1<<16 + 5, 1<<31 - 1, 1 << 31, 1<<32 - 1, 1 << 32, 1<<32 + 5,
		math.MaxInt - 32, math.MaxInt - 1, math.MaxInt,
	}
}

func between(n, from, to int) bool {
	return !(n < from || n > to)
}

// like tells whether a station is another one in all that it has, an empty list being as none.
func like(a, b api.Station) bool {
	return a.Addr == b.Addr && a.Scan == b.Scan && a.Local == b.Local &&
		slices.Equal(a.Code, b.Code) && slices.Equal(a.Subs, b.Subs) && slices.Equal(a.Pubs, b.Pubs)
}

// copied tells a cluster that shares nothing with the one given.
func copied(c api.Cluster) api.Cluster {
	c.Blocks = append([]api.Block{}, c.Blocks...)
	stations := []api.Station{}
	for _, s := range c.Stations {
		s.Code = append([]api.Instr{}, s.Code...)
		s.Subs = append([]api.Spot{}, s.Subs...)
		s.Pubs = append([]api.Spot{}, s.Pubs...)
		stations = append(stations, s)
	}
	c.Stations = stations
	return c
}

// same tells whether a cluster is another one in all that it has.
func same(a, b api.Cluster) bool {
	return a.Slot == b.Slot && a.TTR == b.TTR && a.Gap == b.Gap && a.Retry == b.Retry && a.Limit == b.Limit && a.Top == b.Top &&
		slices.Equal(a.Blocks, b.Blocks) && slices.EqualFunc(a.Stations, b.Stations, like)
}

// program tells a program of n instructions that may run.
func program(n int) []api.Instr {
	code := []api.Instr{}
	for i := range n {
		at := i % 63
		code = append(code, []api.Instr{
			{Op: api.LD, Kind: api.Int, Area: api.Input, At: at},
			{Op: api.ADD, Kind: api.Int, N: 3},
			{Op: api.ST, Kind: api.Int, Area: api.Output, At: at},
			{Op: api.NE, Kind: api.Int, Area: api.Memory, At: at},
			{Op: api.JMPCN, At: n},
		}[i%5])
	}
	return code
}

// directory tells six blocks of stations at 3, 10, 17 and 24, which are the first four addresses of ring.
func directory() []api.Block {
	return []api.Block{
		{ID: 4, Addr: 17, Size: 9},
		{ID: 0, Addr: 3, Size: 4},
		{ID: 15, Addr: 10, Size: 16, High: true},
		{ID: 7, Addr: 3, Size: 1},
		{ID: 9, Addr: 24, Size: 33, High: true},
		{ID: 2, Addr: 10, Size: 2},
	}
}

// ring tells a cluster that may be, of n stations, 1 to 32.
func ring(n int) api.Cluster {
	c := api.Cluster{Slot: 10, TTR: 200, Gap: 5, Retry: 2, Limit: 1000, Top: 31, Blocks: directory()}
	for i := range n {
		s := api.Station{Addr: (7*i + 3) % 32, Scan: 1 + 31*i, Local: 5, Code: program(3 * (i % 8))}
		s.Subs = []api.Spot{{Block: 15, At: 48}, {Block: 0, At: 5 + i}}[:i%3]
		for _, b := range c.Blocks {
			if b.Addr == s.Addr {
				s.Pubs = append(s.Pubs, api.Spot{Block: b.ID, At: b.ID})
			}
		}
		c.Stations = append(c.Stations, s)
	}
	return c
}

// check asks Check, and tells what it answers otherwise than it should.
func check(t *testing.T, what string, c api.Cluster, want api.Errno, wantAt int) {
	t.Helper()
	if e, at := Check(c); e != want || at != wantAt {
		t.Errorf("%s: Check = %d, %d, want %d, %d\n%v", what, e, at, want, wantAt, c)
	}
}

func TestTheExample(t *testing.T) {
	c := api.Cluster{Slot: 4, TTR: 1, Gap: 1, Limit: 1, Top: 3, Stations: []api.Station{{Addr: 3, Scan: 1}, {Addr: 3, Scan: 1}}}
	check(t, "two stations at address 3", c, api.ErrTwice, 101)
}

// number is one of the six numbers, and between what it must be.
type number struct {
	name        string
	of          func(c *api.Cluster) *int
	least, most int
}

func sixNumbers() []number {
	return []number{
		{"Slot", func(c *api.Cluster) *int { return &c.Slot }, 4, 50},
		{"TTR", func(c *api.Cluster) *int { return &c.TTR }, 1, 10000},
		{"Gap", func(c *api.Cluster) *int { return &c.Gap }, 1, 50},
		{"Retry", func(c *api.Cluster) *int { return &c.Retry }, 0, 3},
		{"Limit", func(c *api.Cluster) *int { return &c.Limit }, 1, 65535},
		{"Top", func(c *api.Cluster) *int { return &c.Top }, 0, 31},
	}
}

// beyond are numbers that this one may not be.
func (n number) beyond() []int {
	list := []int{n.least - 1, n.least - 2, n.most + 1, n.most + 2, -n.most}
	for _, one := range ends() {
		if !between(one, n.least, n.most) {
			list = append(list, one)
		}
	}
	return slices.DeleteFunc(list, func(one int) bool { return between(one, n.least, n.most) })
}

// atZero tells a cluster of one station, at address 0, so that Top may be any.
func atZero() api.Cluster {
	return api.Cluster{Slot: 10, TTR: 200, Gap: 5, Retry: 2, Limit: 1000, Top: 31, Stations: []api.Station{{Scan: 5}}}
}

func TestEachNumber(t *testing.T) {
	for _, n := range sixNumbers() {
		for one := n.least; one <= n.most; one += 1 + n.most/1500 {
			c := atZero()
			*n.of(&c) = one
			check(t, n.name, c, api.OK, 0)
		}
		for _, one := range []int{n.least, n.least + 1, n.most - 1, n.most} {
			c := atZero()
			*n.of(&c) = one
			check(t, n.name, c, api.OK, 0)
		}
		for _, one := range n.beyond() {
			c := atZero()
			*n.of(&c) = one
			check(t, n.name, c, api.ErrForm, 0)
		}
	}
}

// TestTwoNumbers has each two of them at their ends, and one at its end and one beyond.
func TestTwoNumbers(t *testing.T) {
	for i, n := range sixNumbers() {
		for _, m := range sixNumbers()[:i] {
			for _, one := range []int{n.least - 1, n.least, n.most, n.most + 1} {
				for _, other := range []int{m.least - 1, m.least, m.most, m.most + 1} {
					c, want := atZero(), api.OK
					*n.of(&c), *m.of(&c) = one, other
					if !between(one, n.least, n.most) || !between(other, m.least, m.most) {
						want = api.ErrForm
					}
					check(t, n.name+" and "+m.name, c, want, 0)
				}
			}
		}
	}
	least, most := atZero(), ring(32)
	for _, n := range sixNumbers() {
		*n.of(&least), *n.of(&most) = n.least, n.most
	}
	check(t, "all at their least", least, api.OK, 0)
	check(t, "all at their greatest", most, api.OK, 0)
	check(t, "no numbers", api.Cluster{}, api.ErrForm, 0)
}

// blockFaults tells directories with one error each: in the first, a middle and the last block.
func blockFaults() []badBlocks {
	list := []badBlocks{}
	add := func(name string, e api.Errno, at int, spoil func(l []api.Block)) {
		l := directory()
		spoil(l)
		list = append(list, badBlocks{name, l, e, at + 1})
	}
	for i := range directory() {
		for _, n := range append(ends(), -1, 16, 17) {
			add("ID", api.ErrForm, i, func(l []api.Block) { l[i].ID = n })
		}
		for _, n := range append(ends(), -1, 32, 33) {
			add("Addr", api.ErrForm, i, func(l []api.Block) { l[i].Addr = n })
		}
		for _, n := range append(ends(), -1, 0, 65, 66) {
			add("Size", api.ErrForm, i, func(l []api.Block) { l[i].Size = n })
		}
		for j := range i {
			add("twice", api.ErrTwice, i, func(l []api.Block) { l[i].ID = l[j].ID })
		}
	}
	for _, n := range []int{17, 18, 100, 3000} {
		list = append(list, badBlocks{"too many, all with errors", make([]api.Block, n), api.ErrLong, 17})
		list = append(list, badBlocks{"too many", append(sixteen(), make([]api.Block, n-16)...), api.ErrLong, 17})
	}
	return list
}

// badBlocks is a directory with an error.
type badBlocks struct {
	name   string
	blocks []api.Block
	e      api.Errno
	at     int
}

// sixteen tells as many blocks as there may be.
func sixteen() []api.Block {
	l := []api.Block{}
	for id := range 16 {
		l = append(l, api.Block{ID: id, Addr: 2*id + 1, Size: 1 + 4*id, High: id%2 == 0})
	}
	return l
}

// TestEachErrorOfTheBlocks has them behind those of the numbers, and ahead of all that stations have.
func TestEachErrorOfTheBlocks(t *testing.T) {
	for _, f := range blockFaults() {
		c := ring(5)
		c.Blocks = f.blocks
		check(t, f.name, c, f.e, f.at)
		for _, stations := range [][]api.Station{nil, {}, make([]api.Station, 33), make([]api.Station, 2), {{Addr: 3, Scan: 1}}} {
			c.Stations = stations
			check(t, f.name+", and the stations", c, f.e, f.at)
		}
		for _, n := range sixNumbers() {
			worse := c
			*n.of(&worse) = n.most + 1
			check(t, f.name+", and "+n.name, worse, api.ErrForm, 0)
		}
	}
}

// TestBlocks has directories that may be, of 0 to 16 blocks.
func TestBlocks(t *testing.T) {
	for n := range 17 {
		c := atZero()
		c.Blocks = sixteen()[:n]
		check(t, "blocks", c, api.OK, 0)
		c.Blocks = sixteen()[16-n:]
		check(t, "blocks", c, api.OK, 0)
		// Nobody needs to be at the address of a block.
		c.Stations = []api.Station{{Addr: 31, Scan: 1}}
		check(t, "blocks", c, api.OK, 0)
	}
	c := atZero()
	c.Top, c.Blocks = 0, []api.Block{{ID: 1, Addr: 31, Size: 64}}
	check(t, "a block of an address beyond Top", c, api.OK, 0)
	c.Stations[0].Subs = []api.Spot{{Block: 1}}
	check(t, "subscribed to a block of an address beyond Top", c, api.OK, 0)
}

func TestHowManyStations(t *testing.T) {
	for n := 1; n <= 32; n++ {
		check(t, "stations", ring(n), api.OK, 0)
	}
	for _, stations := range [][]api.Station{nil, {}, make([]api.Station, 33), make([]api.Station, 34), make([]api.Station, 3000), append(ring(32).Stations, api.Station{Addr: 1, Scan: 1}), append(ring(32).Stations, api.Station{Addr: 99})} {
		c := ring(1)
		c.Stations = stations
		check(t, "no station, or more than 32", c, api.ErrLong, 100)
		c.Blocks = nil
		check(t, "no station, or more than 32", c, api.ErrLong, 100)
		for _, n := range sixNumbers() {
			worse := c
			*n.of(&worse) = n.least - 1
			check(t, "no station, or more than 32, and "+n.name, worse, api.ErrForm, 0)
		}
	}
}

func TestAddr(t *testing.T) {
	for top := range 32 {
		for _, i := range []int{0, 1, 2} {
			for _, addr := range append(ends(), -1, 0, top-1, top, top+1, 31, 32, 33) {
				if addr == 1 || addr == 2 {
					continue // those of the other stations
				}
				c := api.Cluster{Slot: 10, TTR: 200, Gap: 5, Retry: 2, Limit: 1000, Top: top}
				c.Stations = slices.Insert([]api.Station{{Addr: 1, Scan: 1}, {Addr: 2, Scan: 1}}, i, api.Station{Addr: addr, Scan: 1})
				want, wantAt := api.OK, 0
				for at, s := range slices.Backward(c.Stations) {
					if !between(s.Addr, 0, top) {
						want, wantAt = api.ErrForm, 100+at
					}
				}
				check(t, "an address", c, want, wantAt)
			}
		}
	}
}

func TestScan(t *testing.T) {
	for i := range 5 {
		for _, scan := range append(ends(), -1, 0, 1, 2, 50, 51, 255, 256, 257, 999, 1000, 1001, 1002, 10000, 32767, 65535) {
			c, want, wantAt := ring(5), api.OK, 0
			c.Stations[i].Scan = scan
			if !between(scan, 1, 1000) {
				want, wantAt = api.ErrForm, 100+i
			}
			check(t, "a scan", c, want, wantAt)
		}
	}
}

func TestTwice(t *testing.T) {
	for i := range 32 {
		for j := i + 1; j < 32; j++ {
			c := ring(32)
			c.Stations[j].Addr = c.Stations[i].Addr
			check(t, "an address twice", c, api.ErrTwice, 100+j)
			c.Stations[j].Pubs = nil
			c.Stations = slices.Insert(c.Stations[:j], 0, c.Stations[j])
			check(t, "an address twice", c, api.ErrTwice, 100+i+1)
		}
	}
}

// spoilt is an error of a station: rank tells which of those of the chapter it is, part what of the station it spoils.
type spoilt struct {
	name  string
	rank  int
	part  string
	e     api.Errno
	spoil func(c *api.Cluster, i int)
}

// stationFaults tells errors of each kind, in the chapter's order.
func stationFaults() []spoilt {
	list := []spoilt{}
	for _, n := range []int{-1, 32, math.MinInt, math.MaxInt} {
		list = append(list, spoilt{"Addr", 1, "addr", api.ErrForm, func(c *api.Cluster, i int) { c.Stations[i].Addr = n }})
	}
	for _, n := range []int{0, 1001, math.MinInt, math.MaxInt} {
		list = append(list, spoilt{"Scan", 1, "scan", api.ErrForm, func(c *api.Cluster, i int) { c.Stations[i].Scan = n }})
	}
	list = append(list, spoilt{"twice", 2, "addr", api.ErrTwice, func(c *api.Cluster, i int) { c.Stations[second(i)].Addr = c.Stations[second(i)-1].Addr }})
	for _, n := range []int{-1, 65, math.MinInt, math.MaxInt} {
		list = append(list, spoilt{"Local", 3, "local", api.ErrLong, func(c *api.Cluster, i int) { c.Stations[i].Local = n }})
	}
	list = append(list, subFaults()...)
	list = append(list, codeFaults()...)
	return append(list, pubFaults()...)
}

func subFaults() []spoilt {
	list := []spoilt{}
	for _, f := range []struct {
		name string
		e    api.Errno
		subs []api.Spot
	}{
		{"a sub of no block", api.ErrName, []api.Spot{{Block: 1, At: 20}}},
		{"a sub of no block, behind one", api.ErrName, []api.Spot{{Block: 0, At: 10}, {Block: 16, At: 20}}},
		{"a sub twice", api.ErrTwice, []api.Spot{{Block: 0, At: 10}, {Block: 4, At: 20}, {Block: 0, At: 40}}},
		{"a sub's place", api.ErrLong, []api.Spot{{Block: 0, At: 61}}},
		{"a sub's place, far off", api.ErrLong, []api.Spot{{Block: 0, At: math.MaxInt}}},
		{"a sub over own ones", api.ErrOver, []api.Spot{{Block: 0, At: 4}}},
		{"a sub over another", api.ErrOver, []api.Spot{{Block: 0, At: 10}, {Block: 2, At: 13}}},
	} {
		list = append(list, spoilt{f.name, 4, "subs", f.e, func(c *api.Cluster, i int) { c.Stations[i].Subs = f.subs }})
	}
	return list
}

func codeFaults() []spoilt {
	one, open := api.Instr{Op: api.LD, Kind: api.Int, N: 1}, api.Instr{Op: api.OPEN, At: api.ADD}
	list := []spoilt{}
	for _, f := range []struct {
		name string
		e    api.Errno
		code []api.Instr
	}{
		{"201 instructions", api.ErrLong, program(201)},
		{"an instruction that may not be", api.ErrForm, []api.Instr{one, {Op: 99}}},
		{"one that may not be, not reached", api.ErrForm, []api.Instr{{Op: api.RET}, {}}},
		{"a jump back", api.ErrJump, []api.Instr{one, {Op: api.JMP, At: 1}}},
		{"a jump too far", api.ErrJump, []api.Instr{one, {Op: api.JMP, At: 3}}},
		{"no result", api.ErrType, []api.Instr{{Op: api.ST, Kind: api.Int, Area: api.Output}}},
		{"a kind that doesn't fit", api.ErrType, []api.Instr{one, {Op: api.ST, Kind: api.Uint, Area: api.Output}}},
		{"9 brackets", api.ErrFull, slices.Repeat([]api.Instr{one, open}, 9)},
		{"an open bracket at the end", api.ErrForm, []api.Instr{one, open, one}},
		{"a RET within brackets", api.ErrForm, []api.Instr{one, open, {Op: api.RET}}},
		{"a CLOSE without a bracket", api.ErrForm, []api.Instr{one, {Op: api.CLOSE}}},
	} {
		list = append(list, spoilt{f.name, 5, "code", f.e, func(c *api.Cluster, i int) { c.Stations[i].Code = f.code }})
	}
	return list
}

// pubFaults tells those of Reach, and behind them the one that another address publishes.
func pubFaults() []spoilt {
	list := []spoilt{}
	for _, f := range []struct {
		name string
		rank int
		e    api.Errno
		pubs []api.Spot // of block 14, that spoil makes one of the station's own
	}{
		{"a pub of no block", 6, api.ErrName, []api.Spot{{Block: 1}}},
		{"a pub of no block, behind one", 6, api.ErrName, []api.Spot{{Block: 14}, {Block: -1}}},
		{"a pub twice", 6, api.ErrTwice, []api.Spot{{Block: 14}, {Block: 14, At: 20}}},
		{"a pub's place", 6, api.ErrLong, []api.Spot{{Block: 14, At: 58}}},
		{"a pub's place, far off", 6, api.ErrLong, []api.Spot{{Block: 14, At: math.MinInt}}},
		{"a pub twice, behind another's", 6, api.ErrTwice, []api.Spot{{Block: 13}, {Block: 14}, {Block: 14}}},
		{"a pub's place, behind another's", 6, api.ErrLong, []api.Spot{{Block: 13}, {Block: 14, At: 65}}},
		{"another's pub, twice", 6, api.ErrTwice, []api.Spot{{Block: 13}, {Block: 13}}},
		{"another's pub, beyond", 6, api.ErrLong, []api.Spot{{Block: 13, At: 64}}},
		{"another's pub", 7, api.ErrName, []api.Spot{{Block: 13}}},
		{"another's pub, behind an own one", 7, api.ErrName, []api.Spot{{Block: 14}, {Block: 13, At: 20}}},
		{"another's pub, ahead of an own one", 7, api.ErrName, []api.Spot{{Block: 13}, {Block: 14, At: 20}}},
		{"another's pub, over an own one", 7, api.ErrName, []api.Spot{{Block: 14, At: 10}, {Block: 13, At: 10}}},
	} {
		list = append(list, spoilt{f.name, f.rank, "pubs", f.e, func(c *api.Cluster, i int) {
			own := c.Stations[i].Addr & 31
			c.Blocks = append(c.Blocks, api.Block{ID: 14, Addr: own, Size: 7}, api.Block{ID: 13, Addr: own ^ 1, Size: 7})
			c.Stations[i].Pubs = f.pubs
		}})
	}
	return list
}

// faulty tells a ring of five with these errors at that station, in order of their parts: first the pubs, that ask for the station's own address.
func faulty(i int, faults ...spoilt) api.Cluster {
	c := ring(5)
	for _, f := range faults {
		if f.part == "pubs" {
			f.spoil(&c, i)
		}
	}
	for _, f := range faults {
		if f.part != "pubs" {
			f.spoil(&c, i)
		}
	}
	return c
}

// second tells a station of five that has one ahead of it: the last one in the place of the first one.
func second(i int) int {
	if i == 0 {
		return 4
	}
	return i
}

// told tells the number by which Check tells the error.
func told(f spoilt, i int) int {
	if f.name == "twice" {
		return 100 + second(i)
	}
	return 100 + i
}

func TestEachErrorOfAStation(t *testing.T) {
	for _, f := range stationFaults() {
		for i := range 5 {
			c := faulty(i, f)
			check(t, f.name, c, f.e, told(f, i))
			for _, n := range sixNumbers() {
				worse := c
				*n.of(&worse) = n.least - 1
				check(t, f.name+", and "+n.name, worse, api.ErrForm, 0)
			}
			c.Blocks = append(c.Blocks, api.Block{ID: 5, Size: 0})
			check(t, f.name+", and a block", c, api.ErrForm, len(c.Blocks))
			for len(c.Stations) < 33 {
				c.Stations = append(c.Stations, api.Station{})
			}
			c.Blocks = c.Blocks[:len(c.Blocks)-1]
			check(t, f.name+", and more than 32", c, api.ErrLong, 100)
		}
	}
}

// TestTwoErrorsOfAStation has the one that stands first in the chapter.
func TestTwoErrorsOfAStation(t *testing.T) {
	pairs := 0
	for _, f := range stationFaults() {
		for _, g := range stationFaults() {
			if f.rank > g.rank || f.part == g.part {
				continue
			}
			// The two last ones have a station with their address ahead of them.
			for i := 3; i < 5; i++ {
				check(t, f.name+" and "+g.name, faulty(i, f, g), f.e, 100+i)
				check(t, g.name+" and "+f.name, faulty(i, g, f), f.e, 100+i)
			}
			pairs++
		}
	}
	if pairs < 700 {
		t.Errorf("%d pairs only", pairs)
	}
}

// TestErrorsOfTwoStations has that of the first station, whatever it is.
func TestErrorsOfTwoStations(t *testing.T) {
	for _, f := range stationFaults() {
		for _, g := range stationFaults() {
			for i := 1; i < 5; i++ {
				c := faulty(i, g)
				for _, j := range []int{0, i - 1} {
					both := copied(c)
					// No blocks of pubs twice: these are asked for ahead of the stations.
					if both.Blocks = directory(); f.part == "pubs" || g.part == "pubs" {
						both.Blocks = append(both.Blocks, api.Block{ID: 14, Addr: both.Stations[j].Addr, Size: 7}, api.Block{ID: 13, Addr: 30, Size: 7})
					}
					kept := both.Blocks
					f.spoil(&both, j)
					both.Blocks = kept
					want, wantAt := plainCheck(both)
					if f.name != "twice" && (want != f.e || wantAt != 100+j) {
						t.Fatalf("%s and %s: %d, %d", f.name, g.name, want, wantAt)
					}
					check(t, f.name+", and later "+g.name, both, want, wantAt)
				}
			}
		}
	}
}

// TestAllStationsSpoilt has each station spoilt, and all of them.
func TestAllStationsSpoilt(t *testing.T) {
	for _, f := range stationFaults() {
		if f.name == "twice" || f.part == "pubs" {
			continue
		}
		c := ring(32)
		for i := 31; i >= 0; i-- {
			f.spoil(&c, i)
			check(t, f.name, c, f.e, 100+i)
		}
	}
}

// TestPubs: of whom the blocks are, and that they may lie over one another.
func TestPubs(t *testing.T) {
	for addr := range 32 {
		for other := range 32 {
			c := atZero()
			c.Blocks = []api.Block{{ID: 3, Addr: other, Size: 64}, {ID: 5, Addr: addr, Size: 64}}
			c.Stations = []api.Station{{Addr: addr, Scan: 1, Pubs: []api.Spot{{Block: 5}, {Block: 3}}}}
			want, wantAt := api.OK, 0
			if addr != other {
				want, wantAt = api.ErrName, 100
			}
			check(t, "all over one another", c, want, wantAt)
			c.Stations = append(c.Stations, api.Station{Addr: addr ^ 1, Scan: 1})
			check(t, "all over one another, ahead of another", c, want, wantAt)
			slices.Reverse(c.Stations)
			if wantAt == 100 {
				wantAt = 101
			}
			check(t, "all over one another, behind another", c, want, wantAt)
		}
	}
	c := atZero()
	c.Blocks = []api.Block{{ID: 3, Addr: 0, Size: 8}}
	c.Stations[0] = api.Station{Scan: 1, Local: 56, Subs: []api.Spot{{Block: 3, At: 56}}, Pubs: []api.Spot{{Block: 3, At: 2}}}
	check(t, "its own block, published and read", c, api.OK, 0)
	// Not all of a station's blocks need be published by it, nor be written or read by its program.
	c.Stations[0].Pubs = nil
	check(t, "an own block that isn't published", c, api.OK, 0)
	// An address tells whose a block is, not a station's number.
	c.Stations = []api.Station{{Addr: 1, Scan: 1, Pubs: []api.Spot{{Block: 3}}}, {Addr: 0, Scan: 1}}
	check(t, "by the number of a station", c, api.ErrName, 100)
}

// TestOfThoseThatMayBe has ends that the document names.
func TestOfThoseThatMayBe(t *testing.T) {
	c := ring(32)
	c.Blocks = sixteen()
	for i := range c.Stations {
		s := &c.Stations[i]
		s.Local, s.Code, s.Pubs, s.Subs = 2*i, program(200), nil, nil
		for _, b := range c.Blocks {
			if b.Addr == s.Addr {
				s.Pubs = append(s.Pubs, api.Spot{Block: b.ID, At: 64 - b.Size})
			}
		}
		for _, b := range c.Blocks[:2] {
			if s.Local <= 48 {
				s.Subs = append(s.Subs, api.Spot{Block: b.ID, At: 50 + 5*b.ID})
			}
		}
	}
	check(t, "32 stations, 16 blocks, 200 instructions", c, api.OK, 0)
	c = atZero()
	for _, local := range []int{0, 1, 63, 64} {
		c.Stations[0].Local = local
		check(t, "own bytes", c, api.OK, 0)
	}
	for n := range 201 {
		c.Stations[0].Code = program(n)
		check(t, "instructions", c, api.OK, 0)
	}
	for _, s := range []api.Station{{Scan: 1}, {Scan: 1000, Code: []api.Instr{}, Subs: []api.Spot{}, Pubs: []api.Spot{}}} {
		c.Stations[0] = s
		check(t, "nothing at all", c, api.OK, 0)
	}
	for addr := range 32 {
		c.Stations[0].Addr, c.Top = addr, 31
		check(t, "alone", c, api.OK, 0)
		c.Top = addr
		check(t, "alone, at the top", c, api.OK, 0)
		if c.Top = addr - 1; addr > 0 {
			check(t, "alone, beyond the top", c, api.ErrForm, 100)
		}
	}
}

// The plain ones below go by the words of the chapter, in another way: from the last error to the first one, so that what stays is the first one.

func plainStation(c api.Cluster, i int) api.Errno {
	e, s := api.OK, c.Stations[i]
	for _, spot := range s.Pubs {
		if !slices.ContainsFunc(c.Blocks, func(b api.Block) bool { return b.ID == spot.Block && b.Addr == s.Addr }) {
			e = api.ErrName
		}
	}
	if one, _ := image.Reach(s.Pubs, c.Blocks); one != api.OK {
		e = one
	}
	if one, _ := verify.Check(s.Code); one != api.OK {
		e = one
	}
	if one, _ := image.Lay(s.Local, s.Subs, c.Blocks); one != api.OK {
		e = one
	}
	if slices.ContainsFunc(c.Stations[:i], func(ahead api.Station) bool { return ahead.Addr == s.Addr }) {
		e = api.ErrTwice
	}
	if s.Scan < 1 || s.Scan > 1000 || s.Addr < 0 || s.Addr > c.Top {
		e = api.ErrForm
	}
	return e
}

func plainCheck(c api.Cluster) (api.Errno, int) {
	e, at := api.OK, 0
	for i := len(c.Stations) - 1; i >= 0; i-- {
		if one := plainStation(c, i); one != api.OK {
			e, at = one, 100+i
		}
	}
	if n := len(c.Stations); n == 0 || n > 32 {
		e, at = api.ErrLong, 100
	}
	if one, place := blocks.Check(c.Blocks); one != api.OK {
		e, at = one, place+1
	}
	for _, n := range sixNumbers() {
		if !between(*n.of(&c), n.least, n.most) {
			e, at = api.ErrForm, 0
		}
	}
	return e, at
}

// plainFind goes from the last station to the first one.
func plainFind(c api.Cluster, addr int) (api.Station, bool) {
	found, some := api.Station{}, false
	for _, s := range slices.Backward(c.Stations) {
		if s.Addr == addr {
			found, some = s, true
		}
	}
	return found, some
}

// plainSet asks of each address whether a station that is meant has it.
func plainSet(c api.Cluster, meant func(s api.Station) bool) api.Set {
	var set api.Set
	for a := range 32 {
		if slices.ContainsFunc(c.Stations, func(s api.Station) bool { return s.Addr == a && meant(s) }) {
			set |= 1 << a
		}
	}
	return set
}

func plainAddrs(c api.Cluster) api.Set {
	return plainSet(c, func(api.Station) bool { return true })
}

func plainReaders(c api.Cluster, block int) api.Set {
	return plainSet(c, func(s api.Station) bool {
		return slices.ContainsFunc(s.Subs, func(spot api.Spot) bool { return spot.Block == block })
	})
}

// plainValues goes from the last block to the first one.
func plainValues(c api.Cluster, s api.Station) []int {
	sizes := make([]int, len(s.Subs))
	for i, spot := range s.Subs {
		for _, b := range slices.Backward(c.Blocks) {
			if b.ID == spot.Block {
				sizes[i] = b.Size
			}
		}
	}
	return sizes
}

// find asks Find, and tells what it answers otherwise than it should.
func find(t *testing.T, what string, c api.Cluster, addr int, want api.Station, wantOk bool) {
	t.Helper()
	if s, ok := Find(c, addr); !like(s, want) || ok != wantOk {
		t.Errorf("%s: Find(%v, %d) = %v, %t, want %v, %t", what, c, addr, s, ok, want, wantOk)
	}
}

func addrs(t *testing.T, what string, c api.Cluster, want api.Set) {
	t.Helper()
	if set := Addrs(c); set != want {
		t.Errorf("%s: Addrs(%v) = %b, want %b", what, c, set, want)
	}
}

func values(t *testing.T, what string, c api.Cluster, s api.Station, want ...int) {
	t.Helper()
	if sizes := Values(c, s); !slices.Equal(sizes, want) {
		t.Errorf("%s: Values(%v, %v) = %v, want %v", what, c.Blocks, s.Subs, sizes, want)
	}
}

func readers(t *testing.T, what string, c api.Cluster, block int, want api.Set) {
	t.Helper()
	if set := Readers(c, block); set != want {
		t.Errorf("%s: Readers(%v, %d) = %b, want %b", what, c, block, set, want)
	}
}

func TestFind(t *testing.T) {
	for n := range 33 {
		c := ring(n)
		for addr := -2; addr <= 34; addr++ {
			i := slices.IndexFunc(c.Stations, func(s api.Station) bool { return s.Addr == addr })
			if i < 0 {
				find(t, "nobody there", c, addr, api.Station{}, false)
			} else {
				find(t, "somebody", c, addr, c.Stations[i], true)
			}
		}
		for _, addr := range ends() {
			find(t, "nobody at the ends", c, addr, api.Station{}, false)
		}
	}
	for _, addr := range append(ends(), -1, 0, 3, 31, 32) {
		find(t, "no stations", api.Cluster{}, addr, api.Station{}, false)
		find(t, "no stations", api.Cluster{Stations: []api.Station{}, Top: addr, Blocks: directory()}, addr, api.Station{}, false)
		// A number that is no address is one all the same, if a station has it.
		one := api.Station{Addr: addr, Scan: -addr, Local: addr, Subs: []api.Spot{{Block: addr}}}
		find(t, "any number", api.Cluster{Stations: []api.Station{{Addr: 7}, one}}, addr, one, true)
	}
	c := ring(5)
	for i := range 5 {
		for j := range i {
			twice := copied(c)
			twice.Stations[i].Addr = twice.Stations[j].Addr
			find(t, "two of them", twice, c.Stations[j].Addr, c.Stations[j], true)
			find(t, "the other's is gone", twice, c.Stations[i].Addr, api.Station{}, false)
		}
	}
	many := api.Cluster{Stations: make([]api.Station, 3000)}
	many.Stations[0].Scan, many.Stations[2999].Addr = 5, 9
	find(t, "one of many", many, 9, api.Station{Addr: 9}, true)
	find(t, "the first of many", many, 0, api.Station{Scan: 5}, true)
}

func TestAddrs(t *testing.T) {
	addrs(t, "none", api.Cluster{}, 0)
	addrs(t, "none", api.Cluster{Stations: []api.Station{}, Blocks: directory(), Top: 31}, 0)
	for n := range 33 {
		c := ring(n)
		addrs(t, "a ring", c, plainAddrs(c))
	}
	addrs(t, "32", ring(32), math.MaxUint32)
	for addr := range 32 {
		one, other := api.Station{Addr: addr}, api.Station{Addr: addr ^ 5}
		addrs(t, "one", api.Cluster{Stations: []api.Station{one}}, 1<<addr)
		addrs(t, "two", api.Cluster{Stations: []api.Station{one, other}}, 1<<addr|1<<(addr^5))
		addrs(t, "twice", api.Cluster{Stations: []api.Station{one, other, one, one}}, 1<<addr|1<<(addr^5))
		for _, none := range append(ends(), -32, -31, -1, 32, 33, 63, 64, 32+addr, 64+addr, addr-32, addr-64, 256+addr) {
			addrs(t, "beside one that is none", api.Cluster{Stations: []api.Station{{Addr: none}, one, {Addr: none}}}, 1<<addr)
			addrs(t, "one that is none", api.Cluster{Stations: []api.Station{{Addr: none}}, Top: 31}, 0)
		}
	}
}

func TestValues(t *testing.T) {
	c := api.Cluster{Blocks: directory()}
	sub := func(ids ...int) api.Station {
		s := api.Station{Pubs: []api.Spot{{Block: 4}}}
		for i, id := range ids {
			s.Subs = append(s.Subs, api.Spot{Block: id, At: 60 - i})
		}
		return s
	}
	values(t, "none", c, sub())
	values(t, "none", c, api.Station{Subs: []api.Spot{}})
	values(t, "one", c, sub(4), 9)
	values(t, "all", c, sub(4, 0, 15, 7, 9, 2), 9, 4, 16, 1, 33, 2)
	values(t, "all, in another order", c, sub(2, 9, 7, 15, 0, 4), 2, 33, 1, 16, 4, 9)
	values(t, "some that aren't there", c, sub(1, 4, -1, 0, 16, 2, 14), 0, 9, 0, 4, 0, 2, 0)
	values(t, "one twice", c, sub(4, 4, 0, 4), 9, 9, 4, 9)
	for _, id := range append(ends(), -1, 16, 17) {
		values(t, "none of any number", c, sub(0, id, 9), 4, 0, 33)
		any := api.Cluster{Blocks: append(directory(), api.Block{ID: id, Size: 5})}
		values(t, "one of any number", any, sub(0, id, 9), 4, 5, 33)
		any.Blocks[6].Size = id
		values(t, "a size that may not be", any, sub(0, id, 9), 4, id, 33)
	}
	for _, none := range []api.Cluster{{}, {Blocks: []api.Block{}}, {Stations: []api.Station{sub(4)}}} {
		values(t, "no blocks", none, sub(4, 0, 4), 0, 0, 0)
	}
	twice := api.Cluster{Blocks: []api.Block{{ID: 2, Size: 0}, {ID: 1, Size: 8}, {ID: 1, Size: 9}, {ID: 2, Size: 7}}}
	values(t, "blocks that are there twice", twice, sub(1, 2, 1), 8, 0, 8)
	long := api.Station{Subs: make([]api.Spot, 3000)}
	values(t, "many", c, long, slices.Repeat([]int{4}, 3000)...)
	values(t, "many blocks", api.Cluster{Blocks: append(make([]api.Block, 3000), api.Block{ID: 3, Size: 6})}, sub(0, 3, 4), 0, 6, 0)
	// By the station that it is given, not by those of the cluster.
	values(t, "another station", ring(5), sub(9), 33)
}

func TestReaders(t *testing.T) {
	c := ring(5)
	readers(t, "of 0", c, 0, 1<<17)
	readers(t, "of 15", c, 15, 1<<10|1<<17|1<<31)
	for i := range c.Stations {
		c.Stations[i].Subs = append(c.Stations[i].Subs, api.Spot{Block: 7})
	}
	readers(t, "all", c, 7, 1<<3|1<<10|1<<17|1<<24|1<<31)
	readers(t, "none", c, 4, 0)
	readers(t, "the one that publishes it", api.Cluster{Blocks: directory(), Stations: []api.Station{{Addr: 3, Pubs: []api.Spot{{Block: 0}}}}}, 0, 0)
	readers(t, "no stations", api.Cluster{Blocks: directory()}, 0, 0)
	for _, id := range append(ends(), -1, 0, 5, 15, 16, 31, 32) {
		readers(t, "no stations", api.Cluster{}, id, 0)
		readers(t, "no subs", api.Cluster{Stations: []api.Station{{Addr: 3}, {Addr: 4, Subs: []api.Spot{}}}}, id, 0)
		some := api.Cluster{Stations: []api.Station{
			{Addr: 3, Subs: []api.Spot{{Block: 7, At: id}, {Block: id}}},
			{Addr: 30, Subs: []api.Spot{{Block: id, At: 5}, {Block: 8}, {Block: id, At: 9}}},
			{Addr: 9, Subs: []api.Spot{{Block: 7, At: id}}, Pubs: []api.Spot{{Block: id}}},
			{Addr: 0, Subs: []api.Spot{{Block: id}}},
			{Addr: 0, Subs: []api.Spot{{Block: 7}}},
		}}
		readers(t, "without a directory", some, id, 1|1<<3|1<<30)
		some.Blocks = directory()
		readers(t, "with a directory", some, id, 1|1<<3|1<<30)
		slices.Reverse(some.Stations)
		readers(t, "the other way round", some, id, 1|1<<3|1<<30)
	}
	for addr := range 32 {
		subs := []api.Spot{{Block: 1}, {Block: 2}}
		for _, none := range append(ends(), -32, -1, 32, 33, 64, 32+addr, addr-32, 256+addr) {
			some := api.Cluster{Stations: []api.Station{{Addr: none, Subs: subs}, {Addr: addr, Subs: subs[:1]}, {Addr: none, Subs: subs}}}
			readers(t, "stations whose address is none", some, 1, 1<<addr)
			readers(t, "stations whose address is none, alone", some, 2, 0)
		}
	}
}

// dice draws numbers, the same ones in each run.
type dice uint64

func (d *dice) roll(n int) int {
	*d = *d*6364136223846793005 + 1442695040888963407
	return int(uint64(*d)>>33) % n
}

// number draws one of from to to, and, rarely, one at the ends.
func (d *dice) number(from, to, rare int) int {
	if d.roll(rare) == 0 {
		return ends()[d.roll(len(ends()))]
	}
	return from + d.roll(to-from+1)
}

// right draws a cluster that may be.
func (d *dice) right() api.Cluster {
	c := api.Cluster{Slot: 4 + d.roll(47), TTR: 1 + d.roll(10000), Gap: 1 + d.roll(50), Retry: d.roll(4), Limit: 1 + d.roll(65535)}
	order := d.shuffled(32)
	for _, id := range d.shuffled(16)[:d.roll(17)] {
		c.Blocks = append(c.Blocks, api.Block{ID: id, Addr: order[d.roll(8)], Size: 1 + d.roll(64)>>d.roll(6), High: d.roll(2) == 0})
	}
	for _, addr := range order[:1+d.roll(8+d.roll(25))] {
		s := api.Station{Addr: addr, Scan: 1 + d.roll(1000), Local: d.roll(65) >> d.roll(6), Code: program(d.roll(201) >> d.roll(6))}
		end := s.Local
		for _, i := range d.shuffled(len(c.Blocks)) {
			b := c.Blocks[i]
			if at := end + d.roll(3); at+b.Size <= 64 {
				s.Subs, end = append(s.Subs, api.Spot{Block: b.ID, At: at}), at+b.Size
			}
			if b.Addr == addr {
				s.Pubs = append(s.Pubs, api.Spot{Block: b.ID, At: d.roll(65 - b.Size)})
			}
		}
		c.Stations = append(c.Stations, s)
		c.Top = max(c.Top, addr)
	}
	c.Top += d.roll(32 - c.Top)
	return c
}

// shuffled draws an order of the numbers from 0 on.
func (d *dice) shuffled(n int) []int {
	list := []int{}
	for i := range n {
		list = slices.Insert(list, d.roll(i+1), i)
	}
	return list
}

// spoil draws one thing of a cluster to be another than it was.
func (d *dice) spoil(c *api.Cluster) {
	switch d.roll(8) {
	case 0:
		n := sixNumbers()[d.roll(6)]
		*n.of(c) = n.beyond()[d.roll(len(n.beyond()))]
	case 1:
		if len(c.Blocks) > 0 {
			b := &c.Blocks[d.roll(len(c.Blocks))]
			*[]*int{&b.ID, &b.Addr, &b.Size}[d.roll(3)] = d.number(-1, 66, 9)
		}
	case 2:
		s := &c.Stations[d.roll(len(c.Stations))]
		*[]*int{&s.Addr, &s.Scan, &s.Local}[d.roll(3)] = d.number(-1, 66, 9)
	case 3, 4:
		s := &c.Stations[d.roll(len(c.Stations))]
		if spots := [][]api.Spot{s.Subs, s.Pubs}[d.roll(2)]; len(spots) > 0 {
			spot := &spots[d.roll(len(spots))]
			*[]*int{&spot.Block, &spot.At}[d.roll(2)] = d.number(-1, 66, 9)
		}
	case 5:
		if code := c.Stations[d.roll(len(c.Stations))].Code; len(code) > 0 {
			i := &code[d.roll(len(code))]
			*[]*int{&i.Op, &i.Kind, &i.Area, &i.At}[d.roll(4)] = d.number(-1, 66, 9)
		}
	case 6:
		s := &c.Stations[d.roll(len(c.Stations))]
		s.Pubs = append(s.Pubs, api.Spot{Block: d.number(-1, 16, 9), At: d.roll(20)})
	case 7:
		c.Stations[d.roll(len(c.Stations))].Addr = c.Stations[d.roll(len(c.Stations))].Addr
	}
}

// loose draws a cluster of which nothing needs to be as it must.
func (d *dice) loose() api.Cluster {
	rare := 3 + d.roll(60)
	n := func(to int) int { return d.number(-1, to, rare) }
	c := api.Cluster{Slot: 4 + n(46), TTR: n(10000), Gap: n(50), Retry: n(3), Limit: n(65535), Top: 20 + n(11)}
	for range d.roll(18) {
		c.Blocks = append(c.Blocks, api.Block{ID: n(16), Addr: n(32), Size: n(66), High: d.roll(2) == 0})
	}
	for range d.roll(1 + d.roll(34)) {
		s := api.Station{Addr: n(32), Scan: n(1001), Local: n(66), Code: program(d.roll(1 + d.roll(203)))}
		for range d.roll(5) {
			s.Subs = append(s.Subs, api.Spot{Block: n(16), At: n(65)})
			s.Pubs = append(s.Pubs, api.Spot{Block: n(16), At: n(65)})
		}
		c.Stations = append(c.Stations, s)
	}
	return c
}

// all holds each call of a cluster against the second way.
func all(t *testing.T, what string, c api.Cluster) {
	t.Helper()
	e, at := plainCheck(c)
	check(t, what, c, e, at)
	addrs(t, what, c, plainAddrs(c))
	for n := -1; n <= 33; n++ {
		s, ok := plainFind(c, n)
		find(t, what, c, n, s, ok)
		readers(t, what, c, n, plainReaders(c, n))
	}
	for _, s := range c.Stations {
		values(t, what, c, s, plainValues(c, s)...)
	}
}

// TestDrawn holds P20.1 for many clusters: those that may be, with one thing spoilt, and loose ones.
func TestDrawn(t *testing.T) {
	d := dice(1)
	came := [16]int{}
	for range 2500 {
		c := d.right()
		check(t, "drawn as it must be", c, api.OK, 0)
		all(t, "drawn as it must be", c)
		for range 3 {
			one := copied(c)
			d.spoil(&one)
			e, _ := plainCheck(one)
			came[e]++
			all(t, "one thing spoilt", one)
			d.spoil(&one)
			all(t, "two things spoilt", one)
		}
		all(t, "loose", d.loose())
	}
	for _, e := range []api.Errno{api.OK, api.ErrLong, api.ErrForm, api.ErrName, api.ErrType, api.ErrJump, api.ErrTwice, api.ErrOver} {
		if came[e] < 10 {
			t.Errorf("%d came %d times only", e, came[e])
		}
	}
}

// TestEveryCallEnds holds P0 and R7: each call answers at all arguments, and the same once more.
func TestEveryCallEnds(t *testing.T) {
	d := dice(0)
	for range 300 {
		c := d.loose()
		switch d.roll(6) {
		case 0:
			c.Blocks = make([]api.Block, d.roll(3000))
		case 1:
			c.Stations = make([]api.Station, d.roll(3000))
		case 2:
			c = api.Cluster{}
		case 3:
			c = d.right()
			c.Stations[0].Code, c.Stations[0].Subs, c.Stations[0].Pubs = make([]api.Instr, d.roll(3000)), make([]api.Spot, d.roll(3000)), make([]api.Spot, d.roll(3000))
		}
		for _, n := range ends() {
			again := copied(c)
			e, at := Check(c)
			check(t, "once more", again, e, at)
			s, ok := Find(c, n)
			find(t, "once more", again, n, s, ok)
			addrs(t, "once more", again, Addrs(c))
			values(t, "once more", again, s, Values(c, s)...)
			readers(t, "once more", again, n, Readers(c, n))
			again.Slot, again.TTR, again.Gap, again.Retry, again.Limit, again.Top = n, n, n, n, n, n
			check(t, "the ends", again, api.ErrForm, 0)
		}
	}
	values(t, "nothing", api.Cluster{}, api.Station{})
}

// behind tells a cluster whose lists go on behind their ends.
func behind(d *dice) (part, whole api.Cluster) {
	whole = d.loose()
	if d.roll(2) == 0 {
		whole = d.right()
	}
	part = whole
	part.Blocks = whole.Blocks[:d.roll(len(whole.Blocks)+1)]
	part.Stations = whole.Stations[:d.roll(len(whole.Stations)+1)]
	return part, whole
}

// TestWhatIsGivenStaysAsItIs holds R4 for lists and for what lies behind their ends, whatever is done with the answers.
func TestWhatIsGivenStaysAsItIs(t *testing.T) {
	d := dice(4)
	for range 1000 {
		part, whole := behind(&d)
		cut := api.Station{}
		if len(whole.Stations) > 0 {
			cut = whole.Stations[d.roll(len(whole.Stations))]
			cut.Code, cut.Subs, cut.Pubs = cut.Code[:len(cut.Code)/2], cut.Subs[:len(cut.Subs)/2], cut.Pubs[:len(cut.Pubs)/2]
		}
		kept := copied(whole)
		with := whole
		with.Stations = append([]api.Station{cut}, whole.Stations...)
		for _, c := range []api.Cluster{part, whole, with} {
			Check(c)
			Addrs(c)
			Readers(c, d.roll(16))
			for _, s := range c.Stations {
				sizes := Values(c, s)
				_ = append(sizes[:0], slices.Repeat([]int{-7}, cap(sizes)+1)...)
				found, _ := Find(c, s.Addr)
				wipe(&found)
			}
		}
		if !same(whole, kept) {
			t.Fatalf("%v\nwas %v", whole, kept)
		}
	}
}

// wipe writes over all of a station's lists, and over what lies behind their ends.
func wipe(s *api.Station) {
	for _, spots := range [][]api.Spot{s.Subs, s.Pubs} {
		for i := range spots[:cap(spots)] {
			spots[:cap(spots)][i] = api.Spot{Block: -7, At: -7}
		}
	}
	for i := range s.Code[:cap(s.Code)] {
		s.Code[:cap(s.Code)][i] = api.Instr{Op: -7}
	}
}

// TestWhatWasAnsweredStays holds P0: no later call, nothing done with what was given, and nothing done with other answers changes an answer.
func TestWhatWasAnsweredStays(t *testing.T) {
	d := dice(5)
	stations, kept, sizes, keptSizes := []api.Station{}, []api.Station{}, [][]int{}, [][]int{}
	for range 300 {
		c := d.right()
		for i := range c.Stations {
			s, _ := Find(c, c.Stations[i].Addr)
			stations = append(stations, s)
			kept = append(kept, copied(api.Cluster{Stations: c.Stations[i : i+1]}).Stations[0])
			sizes = append(sizes, Values(c, s))
			keptSizes = append(keptSizes, plainValues(c, s))
			once, _ := Find(c, s.Addr)
			wipe(&once)
			clear(Values(c, s))
		}
		for i := range c.Stations {
			wipe(&c.Stations[i])
		}
		clear(c.Stations)
		clear(c.Blocks)
		Check(c)
	}
	for i := range stations {
		if !like(stations[i], kept[i]) || !slices.Equal(sizes[i], keptSizes[i]) {
			t.Fatalf("%v, %v\nwas %v, %v", stations[i], sizes[i], kept[i], keptSizes[i])
		}
	}
}

// TestListsOfOneAnswer: no two of them share anything, also where those of the station that was given do.
func TestListsOfOneAnswer(t *testing.T) {
	spots := []api.Spot{{Block: 1, At: 2}, {Block: 3, At: 4}, {Block: 5, At: 6}}
	for from := range 3 {
		for to := from; to <= 3; to++ {
			c := api.Cluster{Stations: []api.Station{{Addr: 4, Subs: spots, Pubs: spots[from:to]}}}
			s, _ := Find(c, 4)
			for i := range s.Subs {
				s.Subs[i] = api.Spot{}
			}
			_ = append(s.Subs, api.Spot{}, api.Spot{}, api.Spot{})
			if !slices.Equal(s.Pubs, spots[from:to]) {
				t.Errorf("%v, not %v", s.Pubs, spots[from:to])
			}
			again, _ := Find(c, 4)
			_ = append(again.Pubs[:0], make([]api.Spot, 5)...)
			if !slices.Equal(again.Subs, spots) {
				t.Errorf("%v, not %v", again.Subs, spots)
			}
		}
	}
}
