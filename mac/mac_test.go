package mac

import (
	"math"
	"slices"
	"testing"

	"fugleman/api"
	"fugleman/frame"
)

// The mac that most tests ask has this address and incarnation; all others are in another one.
const (
	me       = 2
	myInc    = 7
	otherInc = 3
)

// ring tells a cluster that has numbers alone.
func ring(slot, ttr, gap, retry, limit, top int) api.Cluster {
	return api.Cluster{Slot: slot, TTR: ttr, Gap: gap, Retry: retry, Limit: limit, Top: top}
}

// usual tells the numbers that most tests go by.
func usual() api.Cluster { return ring(5, 20, 2, 2, 1000, 6) }

func ep(count, addr, inc int) api.Epoch {
	return api.Epoch{Count: uint16(count), Addr: uint8(addr), Inc: uint16(inc)}
}

func mk(e api.Epoch, hop int) api.Mark { return api.Mark{Epoch: e, Hop: uint16(hop)} }

func setOf(list ...int) api.Set {
	var set api.Set
	for _, a := range list {
		set |= 1 << a
	}
	return set
}

// said tells a frame of another one, to an address in this one's incarnation; of Data, to all.
func said(kind, src, dst int, e api.Epoch, hop int) api.Frame {
	f := api.Frame{Kind: kind, Src: uint8(src), SrcInc: otherInc, Dst: uint8(dst), DstInc: myInc, Epoch: e, Hop: uint16(hop)}
	if kind == api.Data {
		f.Dst, f.DstInc = 0, 0
		f.Parts, f.Bytes = 1, "x"
	}
	return f
}

// answer tells a Status of another one to this one.
func answer(src int, high api.Epoch, wants bool) api.Frame {
	f := said(api.Status, src, me, ep(0, 0, 0), 0)
	f.High, f.Wants = high, wants
	return f
}

// mine tells a frame of this one, to an address in that incarnation.
func mine(kind, dst, dstInc int, e api.Epoch, hop int) api.Frame {
	return api.Frame{Kind: kind, Src: me, SrcInc: myInc, Dst: uint8(dst), DstInc: uint16(dstInc), Epoch: e, Hop: uint16(hop)}
}

// status tells a Status of this one.
func status(dst, dstInc int, e api.Epoch, hop int, high api.Epoch, wants bool) api.Frame {
	f := mine(api.Status, dst, dstInc, e, hop)
	f.High, f.Wants = high, wants
	return f
}

// seen is all that can be asked of a mac.
type seen struct {
	state  int
	holds  bool
	token  api.Mark
	high   api.Epoch
	list   api.Set
	visits int
	turn   int
	fault  bool
}

func see(m *Mac) seen {
	visits, turn := m.Visits()
	return seen{m.State(), m.Holds(), m.Token(), m.High(), m.List(), visits, turn, m.Fault()}
}

// fresh tells a new mac, which there must be.
func fresh(t testing.TB, c api.Cluster, addr, inc int, wants bool) *Mac {
	t.Helper()
	m := New(c, addr, uint16(inc), wants)
	if m == nil {
		t.Fatalf("New(%v, %d, %d, %t) = nil", c, addr, inc, wants)
	}
	return m
}

// tick asks for one tick, and tells what is sent otherwise than it should be.
func tick(t testing.TB, what string, m *Mac, high, low int, want api.Frame, wantWhat int) {
	t.Helper()
	if f, got := m.Tick(high, low); f != want || got != wantWhat {
		t.Errorf("%s: Tick(%d, %d) = %s %+v, %d, want %s %+v, %d", what, high, low, frame.Text(f), f, got, frame.Text(want), want, wantWhat)
	}
}

// sends asks for one tick with nothing waiting, at which a frame of its own is sent.
func sends(t testing.TB, what string, m *Mac, want api.Frame) {
	t.Helper()
	tick(t, what, m, 0, 0, want, Own)
}

// silent asks for so many ticks with nothing waiting, at which nothing is sent.
func silent(t testing.TB, what string, m *Mac, n int) {
	t.Helper()
	for range n {
		tick(t, what, m, 0, 0, api.Frame{}, None)
	}
}

func state(t testing.TB, what string, m *Mac, want int) {
	t.Helper()
	if m.State() != want {
		t.Errorf("%s: state %d, want %d", what, m.State(), want)
	}
}

func list(t testing.TB, what string, m *Mac, want api.Set) {
	t.Helper()
	if m.List() != want {
		t.Errorf("%s: list %b, want %b", what, m.List(), want)
	}
}

func tokenIs(t testing.TB, what string, m *Mac, want api.Mark) {
	t.Helper()
	if m.Token() != want {
		t.Errorf("%s: token %v, want %v", what, m.Token(), want)
	}
}

func highIs(t testing.TB, what string, m *Mac, want api.Epoch) {
	t.Helper()
	if m.High() != want {
		t.Errorf("%s: High %v, want %v", what, m.High(), want)
	}
}

func visits(t testing.TB, what string, m *Mac, want, wantTurn int) {
	t.Helper()
	if n, turn := m.Visits(); n != want || turn != wantTurn {
		t.Errorf("%s: Visits %d, %d, want %d, %d", what, n, turn, want, wantTurn)
	}
}

// e5 is the epoch of the token that the mac is given at first; older and newer are less and greater ones.
func e5() api.Epoch    { return ep(5, 4, 9) }
func older() api.Epoch { return ep(5, 4, 8) }
func newer() api.Epoch { return ep(5, 5, 0) }

// given tells a mac that was given the token 5.4.9/10 by 4, which it is to pass to 4: in Use, with the list of both.
func given(t testing.TB, c api.Cluster) *Mac {
	t.Helper()
	m := fresh(t, c, me, myInc, true)
	m.Hear(said(api.Token, 4, me, e5(), 10))
	state(t, "given", m, Use)
	list(t, "given", m, setOf(me, 4))
	return m
}

// states are those in which a mac can be found between two calls, but for Offline.
func states() []int { return []int{Listen, Idle, Use, Await, Check, CheckPass, AwaitStatus} }

// in tells a mac in one of states, which knows 5.4.9: but for Listen, one that was given 5.4.9/10 by 4 and has the list of itself and 4; in Await it asked 5, in AwaitStatus 3.
func in(t testing.TB, c api.Cluster, wanted int) *Mac {
	t.Helper()
	if wanted == AwaitStatus {
		c.Gap = 1
	} else {
		c.Gap = 50
	}
	if wanted == Listen {
		m := fresh(t, c, me, myInc, true)
		m.Hear(said(api.Data, 4, 0, e5(), 10))
		return m
	}
	m := given(t, c)
	switch wanted {
	case Check:
		m.Tick(1, 0)
	case Await:
		m.Ask(5)
		m.Tick(0, 0)
	case CheckPass, AwaitStatus:
		m.Tick(0, 0)
	case Idle:
		m.Tick(0, 0)
		m.Hear(said(api.Data, 4, 0, e5(), 11))
	}
	state(t, "in", m, wanted)
	return m
}

// leaver tells a mac that passed a Leave of 5.4.9/11 to 4.
func leaver(t testing.TB, c api.Cluster) *Mac {
	t.Helper()
	m := given(t, c)
	m.Want(false)
	sends(t, "leaver", m, mine(api.Leave, 4, otherInc, e5(), 11))
	state(t, "leaver", m, CheckPass)
	return m
}

// offline tells a mac that came to its counter's end when it would claim.
func offline(t testing.TB) *Mac {
	t.Helper()
	c := usual()
	c.Limit = 5
	m := fresh(t, c, me, myInc, true)
	m.Hear(said(api.Data, 4, 0, e5(), 1))
	silent(t, "offline", m, 40)
	state(t, "offline", m, Offline)
	return m
}

// ends are numbers at the ends of int, and some with a small number in their lowest bits.
func ends() []int {
	return []int{
		math.MinInt, math.MinInt + 1, math.MinInt + 2, -1<<32 - 1, -1 << 32, -1<<32 + 2, -1 << 31, -1<<16 + 2, -256, -256 + 2, -255, -33, -32, -31, -2, -1,
		32, 33, 34, 63, 64, 100, 255, 256, 256 + 2, 65536, 65536 + 2, 1<<31 - 1, 1 << 31, 1<<32 - 1, 1 << 32, 1<<32 + 2, math.MaxInt - 1, math.MaxInt,
	}
}

func incs() []int { return []int{0, 1, 2, 255, 256, 32767, 32768, 65534, 65535} }

func TestTheExample(t *testing.T) {
	m := fresh(t, ring(4, 10, 2, 1, 50, 3), 0, 1, true)
	silent(t, "alone", m, 15)
	sends(t, "alone", m, api.Frame{Kind: api.Token, SrcInc: 1, DstInc: 1, Epoch: ep(1, 0, 1)})
}

func TestNewNumbers(t *testing.T) {
	numbers := []struct {
		name        string
		of          func(c *api.Cluster) *int
		least, most int
	}{
		{"Slot", func(c *api.Cluster) *int { return &c.Slot }, 4, 50},
		{"TTR", func(c *api.Cluster) *int { return &c.TTR }, 1, 10000},
		{"Gap", func(c *api.Cluster) *int { return &c.Gap }, 1, 50},
		{"Retry", func(c *api.Cluster) *int { return &c.Retry }, 0, 3},
		{"Limit", func(c *api.Cluster) *int { return &c.Limit }, 1, 65535},
		{"Top", func(c *api.Cluster) *int { return &c.Top }, 0, 31},
	}
	for _, n := range numbers {
		all := append(ends(), n.least-1, n.least, n.least+1, n.most-1, n.most, n.most+1, 0, n.least+1<<32, n.most-1<<32)
		for _, one := range all {
			c := usual()
			*n.of(&c) = one
			want := n.least <= one && one <= n.most
			if got := New(c, 0, 1, true) != nil; got != want {
				t.Errorf("%s %d: a mac %t, want %t", n.name, one, got, want)
			}
			// Another one that may not be doesn't make it right.
			for _, other := range numbers {
				d := c
				*other.of(&d) = other.most + 1
				if New(d, 0, 1, true) != nil {
					t.Errorf("%s %d, %s %d: a mac", n.name, one, other.name, other.most+1)
				}
			}
		}
	}
	if New(api.Cluster{}, 0, 0, false) != nil {
		t.Error("no numbers: a mac")
	}
}

func TestNewAddr(t *testing.T) {
	for top := range 32 {
		c := usual()
		c.Top = top
		all := ends()
		for addr := -3; addr <= 35; addr++ {
			all = append(all, addr)
		}
		for _, addr := range all {
			want := addr >= 0 && addr <= top
			if got := New(c, addr, 1, true) != nil; got != want {
				t.Errorf("Top %d, address %d: a mac %t, want %t", top, addr, got, want)
			}
		}
	}
}

func TestANewOne(t *testing.T) {
	for _, addr := range []int{0, 1, 5, 6} {
		for _, inc := range incs() {
			for _, wants := range []bool{false, true} {
				m := fresh(t, usual(), addr, inc, wants)
				if got := see(m); got != (seen{state: Listen}) {
					t.Errorf("address %d, incarnation %d, wants %t: %v", addr, inc, wants, got)
				}
			}
		}
	}
}

func TestBlocksAndStationsPlayNoPart(t *testing.T) {
	c := usual()
	c.Blocks = []api.Block{{ID: 99, Addr: -4, Size: 1000}, {ID: 99}}
	c.Stations = []api.Station{{Addr: 77}, {Addr: 77, Scan: -1, Code: []api.Instr{{Op: 99}}}}
	long := usual()
	long.Stations = make([]api.Station, 40)
	long.Blocks = make([]api.Block, 40)
	for _, c := range []api.Cluster{c, long} {
		m, plain := fresh(t, c, me, myInc, true), fresh(t, usual(), me, myInc, true)
		for range 300 {
			f, what := m.Tick(0, 0)
			g, want := plain.Tick(0, 0)
			if f != g || what != want || see(m) != see(plain) {
				t.Fatal(f, what, g, want)
			}
		}
	}
	c.Slot = 3
	if New(c, me, myInc, true) != nil {
		t.Error("Slot 3: a mac")
	}
}

func TestSilenceOfEachAddress(t *testing.T) {
	for addr := range 32 {
		for _, slot := range []int{4, 5, 50} {
			over := slot * (4 + 2*addr)
			m := fresh(t, ring(slot, 20, 2, 2, 1000, 31), addr, myInc, true)
			silent(t, "new", m, over-1)
			want := api.Frame{Kind: api.Token, Src: uint8(addr), SrcInc: myInc, Dst: uint8(addr), DstInc: myInc, Epoch: ep(1, addr, myInc)}
			sends(t, "the silence is over", m, want)

			m = fresh(t, ring(slot, 20, 2, 2, 1000, 31), addr, myInc, true)
			silent(t, "till it hears", m, over-1)
			m.Hear(said(api.Data, (addr+1)%32, 0, e5(), 1))
			silent(t, "from when it heard", m, over-1)
			want.Epoch.Count = 6
			sends(t, "the silence is over again", m, want)
		}
	}
}

func TestSilenceWithoutWanting(t *testing.T) {
	over := 5 * 8
	m := fresh(t, usual(), me, myInc, false)
	silent(t, "doesn't want", m, over+10)
	m.Want(true)
	m.Want(false)
	silent(t, "doesn't want any more", m, 3)
	state(t, "doesn't want", m, Listen)
	m.Want(true)
	sends(t, "wants at last", m, mine(api.Token, me, myInc, ep(1, me, myInc), 0))

	m = fresh(t, usual(), me, myInc, false)
	silent(t, "doesn't want yet", m, over-1)
	m.Want(true)
	sends(t, "wants in time", m, mine(api.Token, me, myInc, ep(1, me, myInc), 0))
	m = fresh(t, usual(), me, myInc, false)
	silent(t, "doesn't want yet", m, over-2)
	m.Want(true)
	silent(t, "wants one tick too soon", m, 1)
	sends(t, "wants", m, mine(api.Token, me, myInc, ep(1, me, myInc), 0))
}

func TestSilenceInIdle(t *testing.T) {
	m := in(t, usual(), Idle)
	silent(t, "idle", m, 39)
	state(t, "idle", m, Idle)
	sends(t, "idle no more", m, mine(api.Token, me, myInc, ep(6, me, myInc), 0))
	list(t, "claimed", m, setOf(me))
	visits(t, "claimed", m, 2, 41)

	m = in(t, usual(), Idle)
	m.Want(false)
	silent(t, "idle, and doesn't want", m, 100)
	state(t, "idle", m, Idle)
}

func TestSilenceIsOverByHearing(t *testing.T) {
	for _, kind := range []int{api.Token, api.Poll, api.Status, api.Data, api.Leave} {
		for _, heard := range []bool{true, false} {
			m := fresh(t, usual(), me, myInc, true)
			silent(t, "silent", m, 39)
			f := said(kind, 4, 5, ep(1, 1, 1), 1)
			if !heard {
				f.Src, f.SrcInc = me, myInc
			}
			m.Hear(f)
			_, what := m.Tick(0, 0)
			if (what == None) != heard {
				t.Errorf("kind %d, heard %t: what was sent: %d", kind, heard, what)
			}
		}
	}
}

func TestSilenceIsOverBySending(t *testing.T) {
	m := fresh(t, usual(), me, myInc, true)
	silent(t, "ahead of a Poll", m, 20)
	m.Hear(said(api.Poll, 4, me, ep(0, 0, 0), 1))
	silent(t, "another one", fresh(t, usual(), me, myInc, true), 39)
	sends(t, "a Status", m, status(4, otherInc, ep(0, 0, 0), 1, ep(0, 0, 0), true))
	silent(t, "behind a Status", m, 39)
	sends(t, "behind a Status", m, mine(api.Token, me, myInc, ep(1, me, myInc), 0))

	// The tick at which one that was alone leaves is the first one of its silence.
	m.Want(false)
	silent(t, "leaves", m, 1)
	state(t, "left", m, Listen)
	m.Want(true)
	silent(t, "left", m, 38)
	sends(t, "claims again", m, mine(api.Token, me, myInc, ep(2, me, myInc), 0))

	// It was silent for Slot ticks when it gave up to pass to the other one.
	c := usual()
	c.Retry = 0
	m = leaver(t, c)
	silent(t, "its Leave is lost", m, 5)
	state(t, "its Leave is lost", m, Listen)
	m.Want(true)
	silent(t, "its Leave is lost", m, 34)
	sends(t, "claims again", m, mine(api.Token, me, myInc, ep(7, me, myInc), 0))
}

func TestThePollIsFirst(t *testing.T) {
	for _, s := range states() {
		for _, wants := range []bool{true, false} {
			m := in(t, usual(), s)
			before := see(m)
			m.Want(wants)
			poll := said(api.Poll, 6, me, ep(0, 1, 2), 9)
			poll.DstInc = 99
			m.Hear(poll)
			if got := see(m); got != before {
				t.Errorf("in %d: a Poll of an older epoch: %v, want %v", s, got, before)
			}
			tick(t, "polled", m, 1, 1, status(6, otherInc, ep(0, 1, 2), 9, e5(), wants), Own)
			if got := see(m); got != before {
				t.Errorf("in %d: answered: %v, want %v", s, got, before)
			}
			if f, _ := m.Tick(0, 0); f.Kind == api.Status {
				t.Errorf("in %d: another answer", s)
			}
		}
	}
	m := leaver(t, usual())
	m.Hear(said(api.Poll, 6, me, older(), 9))
	sends(t, "leaving", m, status(6, otherInc, older(), 9, e5(), false))
	silent(t, "leaving", m, 3)
	sends(t, "leaving", m, mine(api.Leave, 4, otherInc, e5(), 11))
}

func TestWhatAStatusHas(t *testing.T) {
	m := fresh(t, usual(), 0, 0, false)
	m.Hear(api.Frame{Kind: api.Poll, Src: 31, Dst: 0})
	sends(t, "zeros", m, api.Frame{Kind: api.Status, Dst: 31})
	m.Hear(api.Frame{Kind: api.Poll, Src: 31, SrcInc: 65535, Dst: 0, DstInc: 65535, Epoch: ep(65535, 31, 65535), Hop: 65535})
	m.Want(true)
	sends(t, "all that may be", m, api.Frame{Kind: api.Status, Dst: 31, DstInc: 65535, Epoch: ep(65535, 31, 65535), Hop: 65535, High: ep(65535, 31, 65535), Wants: true})
	silent(t, "answered", m, 3)

	// What it knows and wants when it answers, not when it was asked; of two polls the later one, once.
	m = fresh(t, usual(), me, myInc, true)
	m.Hear(said(api.Poll, 4, me, older(), 1))
	m.Hear(said(api.Poll, 5, me, e5(), 2))
	m.Hear(said(api.Data, 4, 0, newer(), 1))
	m.Hear(said(api.Poll, 6, 3, newer(), 3))
	m.Want(false)
	sends(t, "two polls", m, status(5, otherInc, e5(), 2, newer(), false))
	silent(t, "two polls", m, 3)
}

// counts are numbers of which each lets something wait, or not.
func counts() []int { return []int{math.MinInt, -1, 0, 1, 2, math.MaxInt} }

func TestUse(t *testing.T) {
	for _, ttr := range []int{1, 2} {
		for _, high := range counts() {
			for _, low := range counts() {
				for _, asks := range []bool{false, true} {
					c := usual()
					c.TTR = ttr
					m := given(t, c)
					if asks {
						m.Ask(5)
					}
					switch {
					case high > 0:
						tick(t, "high", m, high, low, mine(api.Data, 0, 0, e5(), 10), HighData)
						state(t, "high", m, Check)
					case ttr > 1 && low > 0:
						tick(t, "low", m, high, low, mine(api.Data, 0, 0, e5(), 10), LowData)
						state(t, "low", m, Check)
					case ttr > 1 && asks:
						tick(t, "asks", m, high, low, mine(api.Poll, 5, 0, e5(), 10), Own)
						state(t, "asks", m, Await)
					default:
						tick(t, "passes", m, high, low, mine(api.Token, 4, otherInc, e5(), 11), Own)
						state(t, "passes", m, CheckPass)
					}
					visits(t, "use", m, 1, 0)

					m = given(t, c)
					m.Want(false)
					m.Ask(5)
					tick(t, "leaves", m, high, low, mine(api.Leave, 4, otherInc, e5(), 11), Own)
					state(t, "leaves", m, CheckPass)
					list(t, "leaves", m, setOf(4))
				}
			}
		}
	}
}

func TestCheck(t *testing.T) {
	for _, time := range []bool{true, false} {
		for _, high := range counts() {
			for _, low := range counts() {
				for _, asks := range []bool{false, true} {
					c := usual()
					c.TTR = 2
					if time {
						c.TTR = 3
					}
					m := in(t, c, Check)
					if asks {
						m.Ask(5)
					}
					// Who is in Check goes on to the end of its visit, whether it wants or not.
					m.Want(high == low)
					switch {
					case time && high > 0:
						tick(t, "high", m, high, low, mine(api.Data, 0, 0, e5(), 10), HighData)
						state(t, "high", m, Check)
					case time && low > 0:
						tick(t, "low", m, high, low, mine(api.Data, 0, 0, e5(), 10), LowData)
						state(t, "low", m, Check)
					case time && asks:
						tick(t, "asks", m, high, low, mine(api.Poll, 5, 0, e5(), 10), Own)
						state(t, "asks", m, Await)
					default:
						tick(t, "passes", m, high, low, mine(api.Token, 4, otherInc, e5(), 11), Own)
						state(t, "passes", m, CheckPass)
						list(t, "passes", m, setOf(me, 4))
					}
				}
			}
		}
	}
}

// again lets a mac in CheckPass wait for so many ticks, its token being passed on meanwhile, and gives it the token anew.
func again(t testing.TB, m *Mac, ticks, hop int) {
	t.Helper()
	m.Hear(said(api.Data, 4, 0, m.High(), hop-1))
	state(t, "again", m, Idle)
	silent(t, "again", m, ticks)
	m.Hear(said(api.Token, 4, me, m.High(), hop))
	state(t, "again", m, Use)
}

// lows asks for ticks with something low waiting, and tells how many of them it was sent at.
func lows(m *Mac) int {
	for n := range 1000 {
		if _, what := m.Tick(0, 1); what != LowData {
			return n
		}
	}
	return 1000
}

func TestTime(t *testing.T) {
	for _, ttr := range []int{1, 2, 3, 10, 20, 21, 60} {
		c := usual()
		c.TTR, c.Gap = ttr, 50
		m := given(t, c)
		visits(t, "first", m, 1, 0)
		n := lows(m)
		if n != ttr-1 {
			t.Errorf("TTR %d, first visit: %d, want %d", ttr, n, ttr-1)
		}
		state(t, "passed", m, CheckPass)
		// From one arrival to the next there are those ticks, the one at which it was passed, and those that it waited.
		again(t, m, 3, 13)
		turn := n + 1 + 3
		visits(t, "second", m, 2, turn)
		n = lows(m)
		if want := max(ttr-turn-1, 0); n != want {
			t.Errorf("TTR %d, second visit: %d, want %d", ttr, n, want)
		}
		again(t, m, 5, 15)
		turn = n + 1 + 5
		visits(t, "third", m, 3, turn)
		n = lows(m)
		if want := max(ttr-turn-1, 0); n != want {
			t.Errorf("TTR %d, third visit: %d, want %d", ttr, n, want)
		}
	}
}

func TestTimeOfHigh(t *testing.T) {
	for _, ttr := range []int{1, 2, 3, 12} {
		c := usual()
		c.TTR, c.Gap = ttr, 50
		m := given(t, c)
		// The first one goes whatever the time is; then as long as there is time.
		n := 0
		for n < 1000 {
			if _, what := m.Tick(1, 1); what != HighData {
				break
			}
			n++
		}
		if want := max(ttr-1, 1); n != want {
			t.Errorf("TTR %d: %d, want %d", ttr, n, want)
		}
		state(t, "passed", m, CheckPass)
	}
}

// polls lets a mac that nobody answers go on, and tells whom it polls, at which of its visits.
func polls(t testing.TB, m *Mac, n int) (whom, at []int) {
	t.Helper()
	for i := 0; len(whom) < n && i < 10000; i++ {
		f, what := m.Tick(0, 0)
		if what == Own && f.Kind == api.Poll {
			visit, _ := m.Visits()
			whom, at = append(whom, int(f.Dst)), append(at, visit)
			state(t, "polls", m, AwaitStatus)
		}
	}
	return whom, at
}

func TestTheGapOfOneThatIsAlone(t *testing.T) {
	table := []struct {
		addr, top, gap int
		whom, at       []int
	}{
		{2, 6, 1, []int{3, 4, 5, 6, 0, 1, 3, 4}, []int{1, 2, 3, 4, 5, 6, 7, 8}},
		{2, 6, 2, []int{3, 4, 5, 6, 0, 1, 3}, []int{2, 4, 6, 8, 10, 12, 14}},
		{2, 2, 3, []int{0, 1, 0, 1, 0}, []int{3, 6, 9, 12, 15}},
		{0, 2, 50, []int{1, 2, 1, 2}, []int{50, 100, 150, 200}},
		{6, 6, 1, []int{0, 1, 2, 3, 4, 5, 0}, []int{1, 2, 3, 4, 5, 6, 7}},
		{0, 1, 1, []int{1, 1, 1}, []int{1, 2, 3}},
		{31, 31, 4, []int{0, 1, 2}, []int{4, 8, 12}},
	}
	for _, row := range table {
		m := fresh(t, ring(4, 10, row.gap, 1, 1000, row.top), row.addr, myInc, true)
		whom, at := polls(t, m, len(row.whom))
		if !slices.Equal(whom, row.whom) || !slices.Equal(at, row.at) {
			t.Errorf("address %d, Top %d, Gap %d: polls %v at %v, want %v at %v", row.addr, row.top, row.gap, whom, at, row.whom, row.at)
		}
	}
	// Nobody else up to Top: it never asks.
	m := fresh(t, ring(4, 10, 1, 1, 1000, 0), 0, myInc, true)
	for i := range 200 {
		if f, what := m.Tick(0, 0); what == Own && f.Kind != api.Token {
			t.Fatal(i, f)
		}
	}
}

func TestTheGapOfOneAmongOthers(t *testing.T) {
	table := []struct {
		next, top int
		whom      []int
	}{
		{3, 6, nil},
		{4, 6, []int{3, 3, 3}},
		{6, 6, []int{3, 4, 5, 3, 4}},
		{1, 6, []int{3, 4, 5, 6, 0, 3, 4}},
		{0, 6, []int{3, 4, 5, 6, 3}},
		{0, 2, nil},
		{1, 2, []int{0, 0, 0}},
		{9, 6, []int{3, 4, 5, 6, 3}},
		{31, 31, []int{3, 4, 5}},
		{31, 2, nil},
	}
	for _, row := range table {
		m := fresh(t, ring(4, 1000, 1, 1, 1000, row.top), me, myInc, true)
		var whom []int
		for hop := 1; len(whom) < max(len(row.whom), 1) && hop < 100; hop += 2 {
			m.Hear(said(api.Token, row.next, me, e5(), hop))
			list(t, "given", m, setOf(row.next, me))
			f, _ := m.Tick(0, 0)
			if f.Kind == api.Token {
				break
			}
			whom = append(whom, int(f.Dst))
			if want := mine(api.Poll, int(f.Dst), 0, e5(), hop); f != want {
				t.Errorf("next %d, Top %d: %+v, want %+v", row.next, row.top, f, want)
			}
			silent(t, "nobody answers", m, 3)
			sends(t, "nobody answers", m, mine(api.Token, row.next, otherInc, e5(), hop+1))
		}
		if !slices.Equal(whom, row.whom) {
			t.Errorf("next %d, Top %d: polls %v, want %v", row.next, row.top, whom, row.whom)
		}
	}
}

func TestTheGapWhateverTheTime(t *testing.T) {
	for _, ttr := range []int{1, 2, 20} {
		c := usual()
		c.TTR, c.Gap = ttr, 1
		m := given(t, c)
		sends(t, "in Use", m, mine(api.Poll, 3, 0, e5(), 10))
		// Without time what waits doesn't go ahead of it.
		m = given(t, c)
		if ttr == 1 {
			tick(t, "low", m, 0, 1, mine(api.Poll, 3, 0, e5(), 10), Own)
			continue
		}
		tick(t, "high", m, 1, 0, mine(api.Data, 0, 0, e5(), 10), HighData)
		if ttr == 2 {
			tick(t, "high, but no time", m, 1, 1, mine(api.Poll, 3, 0, e5(), 10), Own)
		}
	}
}

func TestWishesPlayNoPartInTheGap(t *testing.T) {
	c := usual()
	c.Gap = 1
	m := fresh(t, c, me, myInc, true)
	silent(t, "alone", m, 39)
	m.Tick(0, 0)
	sends(t, "gap", m, mine(api.Poll, 3, 0, ep(1, me, myInc), 0))
	silent(t, "gap", m, 4)
	m.Ask(6)
	sends(t, "token", m, mine(api.Token, me, myInc, ep(1, me, myInc), 1))
	sends(t, "wish", m, mine(api.Poll, 6, 0, ep(1, me, myInc), 1))
	state(t, "wish", m, Await)
	silent(t, "wish", m, 4)
	// Of the gap the turn is that of the one behind 3, not behind 6.
	sends(t, "gap", m, mine(api.Poll, 4, 0, ep(1, me, myInc), 1))
	state(t, "gap", m, AwaitStatus)
}

func TestAsk(t *testing.T) {
	for top := range 32 {
		c := usual()
		c.Top = top
		for addr := range top + 1 {
			m := fresh(t, c, addr, myInc, true)
			for _, asked := range append(ends(), -1, 0, 1, 2, 5, 6, 7, 30, 31, addr, addr+32, addr+256) {
				want := asked >= 0 && asked < 32 && asked != addr
				if got := m.Ask(asked); got != want {
					t.Fatalf("Top %d, address %d: Ask(%d) = %t", top, addr, asked, got)
				}
			}
		}
	}
}

func TestWhomItAsks(t *testing.T) {
	for asked := range 32 {
		if asked == me {
			continue
		}
		m := given(t, usual())
		m.Hear(said(api.Data, 6, 0, older(), 1))
		m.Ask(5)
		m.Ask(asked)
		// A refused one leaves that which was asked for.
		m.Ask(me)
		m.Ask(-1)
		m.Ask(32)
		inc := 0
		if asked == 4 || asked == 6 {
			inc = otherInc
		}
		sends(t, "asked", m, mine(api.Poll, asked, inc, e5(), 10))
		state(t, "asked", m, Await)
		silent(t, "asked", m, 4)
		sends(t, "once alone", m, mine(api.Token, 4, otherInc, e5(), 11))
	}
	// It is asked when there is a token, and time, be it long behind.
	m := fresh(t, usual(), me, myInc, true)
	m.Ask(6)
	silent(t, "no token", m, 20)
	m.Hear(said(api.Token, 4, me, e5(), 10))
	tick(t, "high is first", m, 1, 1, mine(api.Data, 0, 0, e5(), 10), HighData)
	tick(t, "low is next", m, 0, 1, mine(api.Data, 0, 0, e5(), 10), LowData)
	sends(t, "then it asks", m, mine(api.Poll, 6, 0, e5(), 10))
	// A second one while it waits for the first.
	m.Ask(5)
	silent(t, "waits", m, 4)
	sends(t, "asks the second one", m, mine(api.Poll, 5, 0, e5(), 10))
	silent(t, "waits", m, 4)
	sends(t, "done", m, mine(api.Token, 4, otherInc, e5(), 11))
	// Without time it goes on being asked for.
	c := usual()
	c.TTR = 1
	m = given(t, c)
	m.Ask(6)
	sends(t, "no time", m, mine(api.Token, 4, otherInc, e5(), 11))
}

func TestWaitingForAStatus(t *testing.T) {
	for _, slot := range []int{4, 5, 50} {
		for _, s := range []int{Await, AwaitStatus} {
			c := usual()
			c.Slot, c.TTR = slot, 1000
			m := in(t, c, s)
			silent(t, "waits", m, slot-1)
			state(t, "waits", m, s)
			sends(t, "Slot ticks", m, mine(api.Token, 4, otherInc, e5(), 11))
			state(t, "Slot ticks", m, CheckPass)

			// A poll that it is to answer first lets the timer go beyond Slot.
			m = in(t, c, s)
			silent(t, "waits", m, slot-1)
			m.Hear(said(api.Poll, 6, me, older(), 1))
			sends(t, "a poll is first", m, status(6, otherInc, older(), 1, e5(), true))
			state(t, "a poll is first", m, s)
			sends(t, "one tick more", m, mine(api.Token, 4, otherInc, e5(), 11))

			// And it goes on with the tick at which it is polled.
			m = in(t, c, s)
			m.Hear(said(api.Poll, 6, me, older(), 1))
			sends(t, "a poll", m, status(6, otherInc, older(), 1, e5(), true))
			silent(t, "behind a poll", m, slot-2)
			sends(t, "behind a poll", m, mine(api.Token, 4, otherInc, e5(), 11))
		}
	}
}

func TestAnAnswer(t *testing.T) {
	for _, s := range []int{Await, AwaitStatus} {
		asked := 5
		if s == AwaitStatus {
			asked = 3
		}
		for _, wants := range []bool{true, false} {
			for _, ticks := range []int{0, 1, 3, 4} {
				m := in(t, usual(), s)
				silent(t, "waits", m, ticks)
				f := answer(asked, older(), wants)
				f.SrcInc = 12
				m.Hear(f)
				state(t, "answered", m, s)
				want := setOf(me, 4)
				next, inc := 4, otherInc
				if s == AwaitStatus && wants {
					want, next, inc = setOf(me, 4, 3), 3, 12
				}
				list(t, "answered", m, want)
				sends(t, "answered", m, mine(api.Token, next, inc, e5(), 11))
				list(t, "passed", m, want)
			}
		}
	}
}

func TestAnAnswerOfOneThatIsInTheList(t *testing.T) {
	for _, wants := range []bool{true, false} {
		m := given(t, usual())
		m.Ask(4)
		sends(t, "asks", m, mine(api.Poll, 4, otherInc, e5(), 10))
		m.Hear(answer(4, older(), wants))
		if wants {
			list(t, "wants", m, setOf(me, 4))
			sends(t, "wants", m, mine(api.Token, 4, otherInc, e5(), 11))
			continue
		}
		list(t, "doesn't want", m, setOf(me))
		sends(t, "doesn't want", m, mine(api.Token, me, myInc, e5(), 11))
		visits(t, "doesn't want", m, 2, 2)
	}
}

func TestNoAnswers(t *testing.T) {
	for _, s := range []int{Await, AwaitStatus} {
		asked := 5
		if s == AwaitStatus {
			asked = 3
		}
		other := answer(asked, older(), true)
		other.DstInc = myInc + 1
		elsewhere := answer(asked, older(), true)
		elsewhere.Dst = 4
		wrong := answer(asked, older(), true)
		wrong.Parts = 1
		data := said(api.Data, asked, 0, e5(), 10)
		for i, f := range []api.Frame{other, elsewhere, wrong, data, answer(4, older(), true), answer(6, older(), false), answer(4, older(), false)} {
			m := in(t, usual(), s)
			m.Hear(f)
			list(t, "no answer", m, setOf(me, 4))
			for n := range 4 {
				if f, what := m.Tick(0, 0); what != None {
					t.Errorf("in %d: %d: sent %v at %d", s, i, f, n)
				}
			}
			sends(t, "no answer", m, mine(api.Token, 4, otherInc, e5(), 11))
		}
		// Of an elder incarnation of the asked one.
		m := in(t, usual(), s)
		f := answer(asked, older(), true)
		m.Hear(said(api.Data, asked, 0, older(), 10))
		f.SrcInc = otherInc - 1
		m.Hear(f)
		silent(t, "elder incarnation", m, 4)
	}
	// What answered the first question doesn't answer the second one.
	m := in(t, usual(), Await)
	m.Hear(answer(5, older(), true))
	m.Ask(6)
	sends(t, "the second question", m, mine(api.Poll, 6, 0, e5(), 10))
	m.Hear(answer(5, older(), true))
	silent(t, "the second question", m, 4)
	sends(t, "not answered", m, mine(api.Token, 4, otherInc, e5(), 11))
	// Nor does an answer that comes when nobody is asked any more.
	for _, s := range []int{Listen, Idle, Use, Check, CheckPass} {
		m := in(t, usual(), s)
		before := m.List()
		m.Hear(answer(3, older(), true))
		m.Hear(answer(4, older(), false))
		list(t, "nobody is asked", m, before)
	}
	m = in(t, usual(), AwaitStatus)
	silent(t, "too late", m, 4)
	m.Tick(0, 0)
	m.Hear(answer(3, older(), true))
	list(t, "too late", m, setOf(me, 4))
}

func TestFromAwaitItGoesOnAtOnce(t *testing.T) {
	type next struct {
		what  string
		do    func(m *Mac)
		high  int
		low   int
		want  api.Frame
		sent  int
		state int
	}
	table := []next{
		{"high", func(m *Mac) {}, 1, 1, mine(api.Data, 0, 0, e5(), 10), HighData, Check},
		{"low", func(m *Mac) {}, 0, 1, mine(api.Data, 0, 0, e5(), 10), LowData, Check},
		{"asks", func(m *Mac) { m.Ask(6) }, 0, 0, mine(api.Poll, 6, 0, e5(), 10), Own, Await},
		{"nothing", func(m *Mac) {}, 0, 0, mine(api.Token, 4, otherInc, e5(), 11), Own, CheckPass},
		{"wants no more", func(m *Mac) { m.Want(false) }, 0, 0, mine(api.Token, 4, otherInc, e5(), 11), Own, CheckPass},
	}
	for _, answered := range []bool{true, false} {
		for _, row := range table {
			m := in(t, usual(), Await)
			if answered {
				m.Hear(answer(5, older(), true))
			} else {
				silent(t, row.what, m, 4)
			}
			row.do(m)
			tick(t, row.what, m, row.high, row.low, row.want, row.sent)
			state(t, row.what, m, row.state)
		}
		// From AwaitStatus to Pass, whatever waits.
		m := in(t, usual(), AwaitStatus)
		if answered {
			m.Hear(answer(3, older(), false))
		} else {
			silent(t, "gap", m, 4)
		}
		m.Ask(6)
		tick(t, "gap", m, 1, 1, mine(api.Token, 4, otherInc, e5(), 11), Own)
	}
	// From Await to the gap, and from there on.
	c := usual()
	c.Gap = 1
	m := given(t, c)
	m.Ask(5)
	sends(t, "asks", m, mine(api.Poll, 5, 0, e5(), 10))
	silent(t, "asks", m, 4)
	sends(t, "the gap", m, mine(api.Poll, 3, 0, e5(), 10))
	state(t, "the gap", m, AwaitStatus)
	silent(t, "the gap", m, 4)
	sends(t, "on", m, mine(api.Token, 4, otherInc, e5(), 11))
}

func TestPassingOfANewEpoch(t *testing.T) {
	// One that holds the token hears of a greater epoch by a Status alone.
	table := []struct {
		heard  api.Epoch
		minted bool
	}{{older(), false}, {e5(), false}, {newer(), true}, {ep(5, 4, 10), true}, {ep(9, 0, 0), true}}
	for _, row := range table {
		for _, s := range []int{Use, Check, Await, AwaitStatus} {
			m := in(t, usual(), s)
			m.Hear(answer(6, row.heard, true))
			state(t, "heard", m, s)
			tokenIs(t, "heard", m, mk(e5(), 10))
			if s == Await || s == AwaitStatus {
				silent(t, "waits", m, 4)
			}
			want := mine(api.Token, 4, otherInc, e5(), 11)
			if row.minted {
				highIs(t, "heard", m, row.heard)
				want = mine(api.Token, 4, otherInc, ep(int(row.heard.Count)+1, me, myInc), 1)
			}
			sends(t, "passes", m, want)
			highIs(t, "passed", m, want.Epoch)
			tokenIs(t, "passed", m, mk(want.Epoch, int(want.Hop)))
		}
	}
	// Till it passes it on, it sends by the old one.
	m := in(t, usual(), Use)
	m.Hear(answer(6, newer(), true))
	tick(t, "old", m, 1, 0, mine(api.Data, 0, 0, e5(), 10), HighData)
	m.Ask(5)
	sends(t, "old", m, mine(api.Poll, 5, 0, e5(), 10))
}

func TestPassingToItself(t *testing.T) {
	m := fresh(t, ring(4, 1000, 50, 1, 1000, 3), 0, myInc, true)
	silent(t, "alone", m, 15)
	for hop := range 49 {
		sends(t, "alone", m, api.Frame{Kind: api.Token, SrcInc: myInc, DstInc: myInc, Epoch: ep(1, 0, myInc), Hop: uint16(hop)})
		state(t, "alone", m, Use)
		tokenIs(t, "alone", m, mk(ep(1, 0, myInc), hop))
		list(t, "alone", m, setOf(0))
		visits(t, "alone", m, hop+1, min(hop, 1))
	}
	// With a greater epoch known, a new one, with Hop 1: both marks are it, so that an elder one is nothing.
	m.Hear(api.Frame{Kind: api.Status, Src: 3, High: ep(1, 3, 0)})
	sends(t, "a new epoch", m, api.Frame{Kind: api.Token, SrcInc: myInc, DstInc: myInc, Epoch: ep(2, 0, myInc), Hop: 1})
	visits(t, "a new epoch", m, 50, 1)
	m.Hear(api.Frame{Kind: api.Token, Src: 3, Dst: 0, DstInc: myInc, Epoch: ep(2, 0, myInc), Hop: 0})
	list(t, "an elder one", m, setOf(0))
	m.Hear(api.Frame{Kind: api.Token, Src: 3, Dst: 0, DstInc: myInc, Epoch: ep(2, 0, myInc), Hop: 1})
	list(t, "the same one", m, setOf(0, 3))
	visits(t, "the same one", m, 50, 1)
	m.Hear(api.Frame{Kind: api.Token, Src: 3, Dst: 0, DstInc: myInc, Epoch: ep(2, 0, myInc), Hop: 2})
	visits(t, "the next one", m, 51, 0)
}

func TestLeaving(t *testing.T) {
	// With others: a Leave to the next one, in whose list it isn't any more.
	for _, after := range []func(m *Mac){
		func(m *Mac) { m.Hear(said(api.Data, 4, 0, e5(), 11)) },
		func(m *Mac) { m.Hear(said(api.Token, 4, 5, e5(), 12)) },
		func(m *Mac) { m.Hear(said(api.Poll, 4, 5, e5(), 11)) },
	} {
		c := usual()
		c.Gap = 50
		m := leaver(t, c)
		list(t, "leaves", m, setOf(4))
		after(m)
		state(t, "left", m, Listen)
		// It isn't leaving any more: given the token, it has it and passes it on as a member.
		m.Want(true)
		m.Hear(said(api.Token, 4, me, e5(), 20))
		state(t, "back", m, Use)
		sends(t, "back", m, mine(api.Token, 4, otherInc, e5(), 21))
	}
	// A greater epoch lets it be Idle.
	m := leaver(t, usual())
	m.Hear(said(api.Data, 4, 0, newer(), 0))
	state(t, "a greater epoch", m, Idle)
	m = leaver(t, usual())
	m.Hear(said(api.Token, 4, 5, newer(), 0))
	state(t, "a greater epoch, and it isn't in the list", m, Listen)

	// That it wants again doesn't bring it back while it leaves.
	m = leaver(t, usual())
	m.Want(true)
	silent(t, "wants again", m, 4)
	sends(t, "wants again", m, mine(api.Leave, 4, otherInc, e5(), 11))
}

func TestLeavingAlone(t *testing.T) {
	// It lets the token go, and its epoch.
	m := fresh(t, usual(), me, myInc, true)
	silent(t, "alone", m, 39)
	m.Tick(0, 0)
	m.Want(false)
	silent(t, "alone", m, 1)
	state(t, "alone", m, Listen)
	list(t, "alone", m, 0)
	tokenIs(t, "alone", m, mk(ep(1, me, myInc), 0))
	highIs(t, "alone", m, ep(1, me, myInc))
	// Where a greater epoch is known then it mints all the same, ahead of it.
	m = fresh(t, usual(), me, myInc, true)
	silent(t, "alone", m, 39)
	m.Tick(0, 0)
	m.Hear(answer(6, ep(1, 9, 0), true))
	m.Want(false)
	silent(t, "alone", m, 1)
	state(t, "alone", m, Listen)
	highIs(t, "alone", m, ep(2, me, myInc))
	tokenIs(t, "alone", m, mk(ep(2, me, myInc), 0))
}

func TestLeavingOnesThatAreGone(t *testing.T) {
	// Its Leave is lost: the others in turn are tried, then it lets go.
	c := usual()
	c.Retry = 0
	m := fresh(t, c, me, myInc, true)
	m.Hear(said(api.Token, 4, 5, e5(), 1))
	m.Hear(said(api.Token, 5, me, e5(), 2))
	m.Want(false)
	list(t, "of three", m, setOf(me, 4, 5))
	sends(t, "of three", m, mine(api.Leave, 4, otherInc, e5(), 3))
	silent(t, "of three", m, 4)
	sends(t, "of three", m, mine(api.Leave, 5, otherInc, ep(6, me, myInc), 1))
	silent(t, "of three", m, 5)
	state(t, "of three", m, Listen)
	list(t, "of three", m, 0)
	highIs(t, "of three", m, ep(7, me, myInc))
	tokenIs(t, "of three", m, mk(ep(7, me, myInc), 0))
}

func TestPassingAnew(t *testing.T) {
	for retry := range 4 {
		for _, slot := range []int{4, 5} {
			c := usual()
			c.Slot, c.Retry = slot, retry
			m := in(t, c, CheckPass)
			for range retry {
				silent(t, "waits", m, slot-1)
				sends(t, "anew", m, mine(api.Token, 4, otherInc, e5(), 11))
				state(t, "anew", m, CheckPass)
				list(t, "anew", m, setOf(me, 4))
			}
			silent(t, "waits", m, slot-1)
			// Nobody else is left.
			sends(t, "skipped", m, mine(api.Token, me, myInc, ep(6, me, myInc), 1))
			state(t, "skipped", m, Use)
			list(t, "skipped", m, setOf(me))
			highIs(t, "skipped", m, ep(6, me, myInc))
			visits(t, "skipped", m, 2, 1+slot*(retry+1))
		}
	}
	// With others left, the next one is tried as often as the first.
	c := usual()
	c.Retry, c.Gap = 1, 50
	m := fresh(t, c, me, myInc, true)
	m.Hear(said(api.Token, 4, 5, e5(), 1))
	m.Hear(said(api.Token, 5, me, e5(), 2))
	for range 2 {
		sends(t, "first", m, mine(api.Token, 4, otherInc, e5(), 3))
		silent(t, "first", m, 4)
	}
	for range 2 {
		sends(t, "second", m, mine(api.Token, 5, otherInc, ep(6, me, myInc), 1))
		silent(t, "second", m, 4)
	}
	sends(t, "itself", m, mine(api.Token, me, myInc, ep(7, me, myInc), 1))
}

func TestThePollIsFirstInCheckPass(t *testing.T) {
	c := usual()
	c.Retry = 1
	m := in(t, c, CheckPass)
	silent(t, "waits", m, 4)
	m.Hear(said(api.Poll, 6, me, older(), 1))
	sends(t, "a poll is first", m, status(6, otherInc, older(), 1, e5(), true))
	sends(t, "one tick more", m, mine(api.Token, 4, otherInc, e5(), 11))
	silent(t, "waits", m, 4)
	m.Hear(said(api.Poll, 6, me, older(), 1))
	sends(t, "a poll is first", m, status(6, otherInc, older(), 1, e5(), true))
	sends(t, "one tick more", m, mine(api.Token, me, myInc, ep(6, me, myInc), 1))
}

func TestTheIncarnationItWasPassedToFirst(t *testing.T) {
	for _, leaves := range []bool{false, true} {
		c := usual()
		kind := api.Token
		m := in(t, c, CheckPass)
		if leaves {
			m, kind = leaver(t, c), api.Leave
		}
		// It comes back in another incarnation while the token is to the one ahead of that.
		f := said(api.Data, 4, 0, older(), 1)
		f.SrcInc = 60
		m.Hear(f)
		state(t, "of an older epoch", m, CheckPass)
		for range 2 {
			silent(t, "anew", m, 4)
			sends(t, "anew", m, mine(kind, 4, otherInc, e5(), 11))
		}
		silent(t, "anew", m, 4)
		m.Want(true)
		m.Tick(0, 0)
		// The one that is known by then, when it passes it again.
		m.Hear(said(api.Token, 5, me, ep(100, 0, 0), 1))
		f = said(api.Token, 4, 6, ep(100, 0, 0), 2)
		f.SrcInc = 60
		m.Hear(f)
		m.Hear(said(api.Token, 6, me, ep(100, 0, 0), 3))
		for i := 0; m.State() != CheckPass && i < 100; i++ {
			f, _ = m.Tick(0, 0)
		}
		if f != mine(api.Token, 4, 60, ep(100, 0, 0), 4) {
			t.Error(f)
		}
	}
}

// over asks that a mac is at its counter's end: nothing is sent any more, and nothing takes it back.
func over(t testing.TB, what string, m *Mac) {
	t.Helper()
	before := see(m)
	if before.state != Offline || !before.fault || before.holds {
		t.Errorf("%s: %v", what, before)
	}
	for i := range 300 {
		f, sent := m.Tick(i%2, i%3)
		if f != (api.Frame{}) || sent != None {
			t.Fatalf("%s: sent %v, %d", what, f, sent)
		}
		m.Want(i%7 < 4)
		m.Ask(i % 32)
		e := ep(i%9, 3, 0)
		for _, kind := range []int{api.Token, api.Poll, api.Status, api.Data, api.Leave} {
			f := said(kind, 4, me, e, 60000+i)
			f.SrcInc = 65535
			m.Hear(f)
		}
	}
	if got := see(m); got != before {
		t.Errorf("%s: %v, ahead of it %v", what, got, before)
	}
}

// limited tells the usual numbers with another Limit, and a Gap that doesn't matter.
func limited(limit int) api.Cluster { return ring(5, 20, 50, 0, limit, 6) }

func TestTheEndWhenItClaims(t *testing.T) {
	for _, limit := range []int{1, 2, 5, 1000, 65534, 65535} {
		for _, known := range []int{0, 1, limit - 2, limit - 1, limit, limit + 1, 65534, 65535} {
			if known < 0 || known > 65535 {
				continue
			}
			m := fresh(t, limited(limit), me, myInc, true)
			m.Hear(said(api.Data, 4, 0, ep(known, 31, 65535), 65535))
			silent(t, "ahead of it", m, 39)
			if known < limit {
				sends(t, "a new epoch", m, mine(api.Token, me, myInc, ep(known+1, me, myInc), 0))
				highIs(t, "a new epoch", m, ep(known+1, me, myInc))
				continue
			}
			if m.Fault() {
				t.Error("a fault ahead of it")
			}
			silent(t, "the end", m, 1)
			over(t, "the end", m)
			highIs(t, "the end", m, ep(known, 31, 65535))
			visits(t, "the end", m, 0, 0)
		}
	}
}

func TestTheEndWhenItPasses(t *testing.T) {
	for _, high := range []int{5, 6, 7, 8} {
		m := given(t, limited(7))
		m.Hear(answer(6, ep(high, 9, 0), true))
		if high < 7 {
			sends(t, "a new epoch", m, mine(api.Token, 4, otherInc, ep(high+1, me, myInc), 1))
			continue
		}
		tick(t, "still there", m, 1, 0, mine(api.Data, 0, 0, e5(), 10), HighData)
		silent(t, "the end", m, 1)
		over(t, "the end", m)
		highIs(t, "the end", m, ep(high, 9, 0))
		tokenIs(t, "the end", m, mk(e5(), 10))
	}
	// Also while it leaves, and alone.
	m := given(t, limited(7))
	m.Hear(answer(6, ep(7, 9, 0), true))
	m.Want(false)
	silent(t, "leaves", m, 1)
	over(t, "leaves", m)
	m = fresh(t, limited(1), me, myInc, true)
	silent(t, "alone", m, 39)
	sends(t, "alone", m, mine(api.Token, me, myInc, ep(1, me, myInc), 0))
	m.Hear(answer(6, ep(1, 3, 0), true))
	m.Want(false)
	silent(t, "alone", m, 1)
	over(t, "alone", m)
}

func TestTheEndOfHop(t *testing.T) {
	for _, limit := range []int{5, 6} {
		for _, hop := range []int{65533, 65534, 65535} {
			for _, leaves := range []bool{false, true} {
				m := fresh(t, limited(limit), me, myInc, true)
				m.Hear(said(api.Token, 4, me, e5(), hop))
				state(t, "given", m, Use)
				m.Want(!leaves)
				kind := api.Token
				if leaves {
					kind = api.Leave
				}
				switch {
				case hop < 65535:
					sends(t, "hops", m, mine(kind, 4, otherInc, e5(), hop+1))
				case limit == 6:
					sends(t, "mints, and hops", m, mine(kind, 4, otherInc, ep(6, me, myInc), 1))
					highIs(t, "mints, and hops", m, ep(6, me, myInc))
				default:
					silent(t, "the end", m, 1)
					over(t, "the end", m)
					tokenIs(t, "the end", m, mk(e5(), hop))
				}
			}
		}
	}
	// Alone, all the way.
	m := fresh(t, ring(4, 10, 1, 0, 2, 0), 0, 9, true)
	silent(t, "alone", m, 15)
	for count := 1; count <= 2; count++ {
		for hop := count - 1; hop <= 65535; hop++ {
			sends(t, "alone", m, api.Frame{Kind: api.Token, SrcInc: 9, DstInc: 9, Epoch: ep(count, 0, 9), Hop: uint16(hop)})
		}
	}
	silent(t, "alone", m, 1)
	over(t, "alone", m)
	visits(t, "alone", m, 65536+65535, 1)
}

func TestTheEndWhenItSkips(t *testing.T) {
	for _, limit := range []int{5, 6} {
		for _, leaves := range []bool{false, true} {
			m := given(t, limited(limit))
			m.Want(!leaves)
			m.Tick(0, 0)
			silent(t, "waits", m, 4)
			switch {
			case limit == 5:
				silent(t, "the end", m, 1)
				over(t, "the end", m)
			case leaves:
				silent(t, "lets go", m, 1)
				state(t, "lets go", m, Listen)
				highIs(t, "lets go", m, ep(6, me, myInc))
			default:
				sends(t, "skips", m, mine(api.Token, me, myInc, ep(6, me, myInc), 1))
			}
		}
	}
	over(t, "offline", offline(t))
}

// wrongFrames are frames that may not be, each with one thing that isn't right: of a greater epoch, and to this one.
func wrongFrames() []api.Frame {
	var all []api.Frame
	for _, kind := range []int{api.Token, api.Poll, api.Status, api.Data, api.Leave} {
		good := said(kind, 4, me, newer(), 20)
		spoil := []func(f *api.Frame){
			func(f *api.Frame) { f.Src = 32 },
			func(f *api.Frame) { f.Src = 255 },
			func(f *api.Frame) { f.Epoch.Addr = 32 },
			func(f *api.Frame) { f.Kind = 0 },
			func(f *api.Frame) { f.Kind = 6 },
			func(f *api.Frame) { f.Kind = -1 },
			func(f *api.Frame) { f.Kind += 256 },
			func(f *api.Frame) { f.Kind = math.MaxInt },
		}
		if kind == api.Data {
			spoil = append(spoil,
				func(f *api.Frame) { f.Dst = 1 },
				func(f *api.Frame) { f.DstInc = 1 },
				func(f *api.Frame) { f.Block = 16 },
				func(f *api.Frame) { f.Part = 1 },
				func(f *api.Frame) { f.Parts = 0 },
				func(f *api.Frame) { f.Parts = 5 },
				func(f *api.Frame) { f.Bytes = "" },
				func(f *api.Frame) { f.Bytes = "seventeen bytes .." })
		} else {
			spoil = append(spoil,
				func(f *api.Frame) { f.Dst = 32 + me },
				func(f *api.Frame) { f.Parts = 1 },
				func(f *api.Frame) { f.Bytes = "x" },
				func(f *api.Frame) { f.Block = 1 },
				func(f *api.Frame) { f.Version.Seq = 1 })
		}
		if kind == api.Status {
			spoil = append(spoil, func(f *api.Frame) { f.High.Addr = 32 })
		} else {
			spoil = append(spoil, func(f *api.Frame) { f.High.Count = 1 }, func(f *api.Frame) { f.Wants = true })
		}
		for _, one := range spoil {
			f := good
			one(&f)
			all = append(all, f)
		}
	}
	return append(all, api.Frame{})
}

// unheard asks that a frame changes nothing of a mac in each state, its silence not either: it goes on as one that didn't hear it.
func unheard(t testing.TB, what string, f api.Frame) {
	t.Helper()
	for _, s := range states() {
		m, plain := in(t, usual(), s), in(t, usual(), s)
		m.Tick(0, 0)
		plain.Tick(0, 0)
		m.Hear(f)
		for n := range 60 {
			got, sent := m.Tick(0, 0)
			want, wanted := plain.Tick(0, 0)
			if got != want || sent != wanted || see(m) != see(plain) {
				t.Errorf("%s: %+v, heard in %d, %d ticks ago: %+v, %v, want %+v, %v", what, f, s, n, got, see(m), want, see(plain))
				return
			}
		}
	}
}

func TestFramesThatMayNotBe(t *testing.T) {
	for _, f := range wrongFrames() {
		if frame.Right(f) {
			t.Fatalf("%+v may be", f)
		}
		unheard(t, "may not be", f)
	}
}

func TestItsOwnFrames(t *testing.T) {
	for _, kind := range []int{api.Token, api.Poll, api.Status, api.Data, api.Leave} {
		for _, inc := range []int{0, myInc - 1, myInc, myInc + 1, 65535} {
			f := said(kind, me, me, newer(), 20)
			f.SrcInc = uint16(inc)
			unheard(t, "its own", f)
		}
	}
}

func TestElderIncarnations(t *testing.T) {
	for _, kind := range []int{api.Token, api.Poll, api.Status, api.Data, api.Leave} {
		for _, inc := range []int{0, otherInc - 1} {
			f := said(kind, 4, me, newer(), 20)
			f.SrcInc = uint16(inc)
			unheard(t, "an elder one", f)
		}
		for _, inc := range []int{otherInc, otherInc + 1, 65535} {
			m := in(t, usual(), Check)
			f := said(kind, 4, me, newer(), 20)
			f.High = ep(0, 0, 0)
			if kind == api.Status {
				f.High = newer()
			}
			f.SrcInc = uint16(inc)
			m.Hear(f)
			highIs(t, "heard", m, newer())
			// That is what it knows: of that one, of no other, and not less.
			f = said(api.Data, 4, 0, ep(50, 0, 0), 20)
			f.SrcInc = uint16(inc) - 1
			m.Hear(f)
			highIs(t, "an elder one", m, newer())
			m.Hear(said(api.Data, 5, 0, ep(50, 0, 0), 20))
			highIs(t, "another one", m, ep(50, 0, 0))
		}
	}
	// To whom it polls and passes it says that which it knows.
	for _, inc := range []int{0, 1, 65535} {
		m := fresh(t, usual(), me, myInc, true)
		f := said(api.Token, 31, me, e5(), 10)
		f.SrcInc = uint16(inc)
		m.Hear(f)
		m.Ask(31)
		sends(t, "polls", m, mine(api.Poll, 31, inc, e5(), 10))
		silent(t, "polls", m, 4)
		sends(t, "passes", m, mine(api.Token, 31, inc, e5(), 11))
	}
}

func TestEpochsOfWhatItHears(t *testing.T) {
	for _, kind := range []int{api.Data, api.Poll, api.Token, api.Leave} {
		for _, s := range states() {
			// Less than High: nothing but the silence, and a Poll that is to be answered.
			m := in(t, usual(), s)
			before := see(m)
			for _, dst := range []int{me, 5} {
				m.Hear(said(kind, 4, dst, older(), 65535))
				m.Hear(said(kind, 6, dst, ep(0, 0, 0), 0))
			}
			if got := see(m); got != before {
				t.Errorf("kind %d in %d: an older epoch: %v, want %v", kind, s, got, before)
			}
			// Greater: that is High, and who has the token, or passed it, is Idle.
			for _, e := range []api.Epoch{newer(), ep(5, 4, 10), ep(6, 0, 0), ep(65535, 31, 65535)} {
				for _, by := range []bool{true, false} {
					m = in(t, usual(), s)
					mark := m.Token()
					if by {
						m.Hear(said(kind, 6, 4, e, 0))
					} else {
						m.Hear(said(kind, 4, 6, e, 0))
					}
					highIs(t, "greater", m, e)
					tokenIs(t, "greater", m, mark)
					want := Idle
					// From 6 to 4 a token comes by this one, which isn't in the list then.
					if s == Listen || by && (kind == api.Token || kind == api.Leave) {
						want = Listen
					}
					state(t, "greater", m, want)
				}
			}
		}
	}
	// Of a Status the epoch plays no part, and its High changes no state.
	for _, s := range states() {
		m := in(t, usual(), s)
		f := answer(6, older(), true)
		f.Epoch, f.Hop = ep(60000, 1, 1), 9
		m.Hear(f)
		highIs(t, "a Status", m, e5())
		state(t, "a Status", m, s)
		for _, high := range []api.Epoch{e5(), newer(), older(), ep(5, 5, 1), ep(5, 5, 0)} {
			m.Hear(answer(6, high, false))
		}
		highIs(t, "a Status", m, ep(5, 5, 1))
		state(t, "a Status", m, s)
	}
}

func TestTheTokenGoesOn(t *testing.T) {
	for _, kind := range []int{api.Data, api.Poll, api.Token, api.Leave} {
		for hop := 8; hop <= 14; hop++ {
			for _, from := range []int{4, 6} {
				m := in(t, usual(), CheckPass)
				m.Hear(said(kind, from, 10-from, e5(), hop))
				want := Idle
				if hop < 11 {
					want = CheckPass
				} else if kind != api.Data && kind != api.Poll && from == 6 {
					// From 6 to 4 the token comes by this one.
					want = Listen
				}
				state(t, "passed on", m, want)
				m = leaver(t, usual())
				m.Hear(said(kind, from, 10-from, e5(), hop))
				want = Listen
				if hop < 11 {
					want = CheckPass
				}
				state(t, "left", m, want)
			}
		}
		// By a mark of an older epoch it doesn't go on, be its Hop as it may; nor by one of the token's epoch, when it knows of a greater one.
		m := in(t, usual(), CheckPass)
		m.Hear(said(kind, 4, 5, older(), 65535))
		state(t, "an older epoch", m, CheckPass)
		m.Hear(answer(6, newer(), true))
		m.Hear(said(kind, 4, 5, e5(), 65535))
		state(t, "a greater one is known", m, CheckPass)
		m.Hear(said(kind, 4, 6, newer(), 0))
		if m.State() == CheckPass {
			t.Error("that which is known: still in CheckPass")
		}
	}
	// Of no other state.
	for _, s := range []int{Use, Check, Await, AwaitStatus} {
		m := in(t, usual(), s)
		m.Hear(said(api.Data, 4, 0, e5(), 65535))
		m.Hear(said(api.Poll, 4, 6, e5(), 65535))
		state(t, "it holds", m, s)
	}
}

func TestPollsToItAndToOthers(t *testing.T) {
	for _, e := range []api.Epoch{ep(0, 0, 0), older(), e5(), newer(), ep(65535, 31, 65535)} {
		for _, s := range states() {
			for dst := range 32 {
				for _, inc := range []int{0, myInc, 65535} {
					m := in(t, usual(), s)
					f := said(api.Poll, 4, dst, e, 3)
					f.DstInc = uint16(inc)
					m.Hear(f)
					got, _ := m.Tick(0, 0)
					if is := got.Kind == api.Status; is != (dst == me) {
						t.Fatalf("in %d: a Poll of %v to %d: answered %t", s, e, dst, is)
					}
				}
			}
		}
	}
	// It stays to be answered, whatever comes behind it; it knows by whom, and in which incarnation, it was asked.
	m := in(t, usual(), Use)
	f := said(api.Poll, 31, me, older(), 3)
	f.SrcInc = 77
	m.Hear(f)
	m.Hear(said(api.Token, 4, me, newer(), 0))
	f.SrcInc, f.Epoch = 78, e5()
	f.Dst = 30
	m.Hear(f)
	sends(t, "answered at last", m, status(31, 77, older(), 3, newer(), true))
	sends(t, "then it goes on", m, mine(api.Token, 4, otherInc, newer(), 1))
}

func TestTokensToIt(t *testing.T) {
	for _, kind := range []int{api.Token, api.Leave} {
		for _, s := range states() {
			for hop := 8; hop <= 14; hop++ {
				for _, inc := range []int{myInc - 1, myInc, myInc + 1} {
					m := in(t, usual(), s)
					before := see(m)
					f := said(kind, 4, me, e5(), hop)
					f.DstInc = uint16(inc)
					m.Hear(f)
					greater := s == Listen || hop > int(before.token.Hop)
					n, _ := m.Visits()
					if inc == myInc && greater {
						state(t, "taken", m, Use)
						tokenIs(t, "taken", m, mk(e5(), hop))
						if n != before.visits+1 {
							t.Errorf("taken: visits %d", n)
						}
						continue
					}
					tokenIs(t, "not taken", m, before.token)
					if n != before.visits {
						t.Errorf("not taken: visits %d", n)
					}
					want := s
					if s == CheckPass && hop >= 11 {
						want = Idle
					}
					state(t, "not taken", m, want)
				}
			}
		}
	}
}

func TestMarksOfAllKinds(t *testing.T) {
	// Its own mark is less than that which it heard of: by that which it heard of it is asked first.
	for hop := 10; hop <= 23; hop++ {
		m := in(t, usual(), Check)
		m.Hear(said(api.Token, 4, 5, e5(), 20))
		list(t, "heard of", m, setOf(me, 4, 5))
		m.Hear(said(api.Token, 6, me, e5(), hop))
		if hop < 20 {
			tokenIs(t, "less than what it heard of", m, mk(e5(), 10))
			list(t, "less than what it heard of", m, setOf(me, 4, 5))
			state(t, "less than what it heard of", m, Check)
		} else {
			tokenIs(t, "no less", m, mk(e5(), hop))
			list(t, "no less", m, setOf(me, 4, 5, 6))
			state(t, "no less", m, Use)
		}
	}
	// What was passed is what was heard of: a doubled and late one is none.
	m := in(t, usual(), CheckPass)
	m.Hear(said(api.Token, 5, me, e5(), 10))
	state(t, "doubled", m, CheckPass)
	list(t, "doubled", m, setOf(me, 4))
	m.Hear(said(api.Token, 5, me, e5(), 11))
	state(t, "that which it passed", m, Idle)
	list(t, "that which it passed", m, setOf(me, 4, 5))
	tokenIs(t, "that which it passed", m, mk(e5(), 11))
	m.Hear(said(api.Token, 5, me, e5(), 12))
	state(t, "the next one", m, Use)
	visits(t, "the next one", m, 2, 1)
	// Passing brings what it heard of back to what it passes.
	m = in(t, usual(), Check)
	m.Hear(said(api.Token, 4, 5, e5(), 20))
	sends(t, "it passes", m, mine(api.Token, 4, otherInc, e5(), 11))
	m.Hear(said(api.Token, 6, 5, e5(), 12))
	state(t, "the next one", m, Listen)
	list(t, "the next one", m, setOf(5, 6))
	// By a Data or a Poll nothing is heard of.
	m = in(t, usual(), Idle)
	m.Hear(said(api.Data, 4, 0, e5(), 200))
	m.Hear(said(api.Poll, 4, 5, e5(), 200))
	m.Hear(said(api.Token, 4, me, e5(), 12))
	state(t, "behind Data", m, Use)
	// A mark of a greater epoch is greater, its Hop being less.
	m = in(t, usual(), Check)
	m.Hear(said(api.Token, 4, me, newer(), 0))
	tokenIs(t, "a greater epoch", m, mk(newer(), 0))
	state(t, "a greater epoch", m, Use)
	m = in(t, usual(), Check)
	m.Hear(said(api.Data, 4, 0, newer(), 0))
	m.Hear(said(api.Token, 4, me, e5(), 60000))
	state(t, "less than High", m, Idle)
	list(t, "less than High", m, setOf(me, 4))
}

func TestTheListByTokens(t *testing.T) {
	table := []struct {
		kind, src, dst int
		want           api.Set
	}{
		{api.Token, 4, 6, setOf(2, 4, 6)},
		{api.Token, 4, 5, setOf(2, 4, 5)},
		{api.Token, 4, 2, setOf(2, 4)},
		{api.Token, 6, 4, setOf(4, 6)},
		{api.Token, 3, 4, setOf(2, 3, 4)},
		{api.Token, 1, 4, setOf(1, 4)},
		{api.Token, 1, 3, setOf(1, 3, 4)},
		{api.Token, 1, 2, setOf(1, 2, 4)},
		{api.Token, 31, 0, setOf(0, 2, 4, 31)},
		{api.Token, 0, 31, setOf(0, 31)},
		{api.Token, 4, 4, setOf(4)},
		{api.Token, 9, 9, setOf(9)},
		{api.Leave, 4, 6, setOf(2, 6)},
		{api.Leave, 4, 2, setOf(2)},
		{api.Leave, 6, 4, setOf(4)},
		{api.Leave, 6, 2, setOf(2, 4)},
		{api.Leave, 3, 4, setOf(2, 4)},
		{api.Leave, 1, 4, setOf(4)},
		{api.Leave, 31, 0, setOf(0, 2, 4)},
		{api.Leave, 4, 4, 0},
		{api.Leave, 9, 9, 0},
	}
	for _, row := range table {
		for _, s := range states() {
			m := in(t, usual(), s)
			if s == Listen {
				// One to another incarnation, so that its list is that of the others.
				f := said(api.Token, 4, me, e5(), 10)
				f.DstInc = 1
				m.Hear(f)
			}
			before := m.State()
			list(t, "ahead of it", m, setOf(2, 4))
			f := said(row.kind, row.src, row.dst, e5(), 30)
			f.DstInc = 99
			m.Hear(f)
			list(t, "by a token", m, row.want)
			want := before
			switch {
			case (s == CheckPass || s == Idle) && row.want&setOf(me) == 0:
				want = Listen
			case s == CheckPass:
				want = Idle
			}
			state(t, "by a token", m, want)
			// One that isn't less, and one that is.
			m.Hear(said(api.Token, 20, 21, e5(), 29))
			list(t, "by a lesser one", m, row.want)
			m.Hear(said(api.Leave, 21, 22, e5(), 30))
			if m.List()&setOf(21, 22) != setOf(22) {
				t.Errorf("by the same one: %b", m.List())
			}
		}
	}
}

func TestWhatIsTakenEndsTheLeaving(t *testing.T) {
	for _, wants := range []bool{true, false} {
		c := usual()
		c.Gap = 50
		m := leaver(t, c)
		m.Want(wants)
		m.Hear(said(api.Token, 5, me, e5(), 12))
		state(t, "taken", m, Use)
		list(t, "taken", m, setOf(me, 4, 5))
		if wants {
			tick(t, "stays", m, 1, 0, mine(api.Data, 0, 0, e5(), 12), HighData)
			sends(t, "stays", m, mine(api.Token, 4, otherInc, e5(), 13))
			continue
		}
		sends(t, "leaves anew", m, mine(api.Leave, 4, otherInc, e5(), 13))
		list(t, "leaves anew", m, setOf(4, 5))
	}
}

func TestRotations(t *testing.T) {
	m := fresh(t, usual(), me, myInc, true)
	silent(t, "ahead of all", m, 30)
	m.Hear(said(api.Token, 4, me, e5(), 10))
	visits(t, "the first", m, 1, 0)
	// Taken twice without a tick between, and with some.
	m.Hear(said(api.Token, 4, me, e5(), 11))
	visits(t, "the second", m, 2, 0)
	m.Tick(1, 0)
	m.Tick(1, 0)
	m.Tick(1, 0)
	visits(t, "the second", m, 2, 0)
	m.Hear(said(api.Token, 4, me, e5(), 12))
	visits(t, "the third", m, 3, 3)
	m.Tick(1, 0)
	m.Hear(said(api.Token, 4, me, newer(), 0))
	visits(t, "the fourth", m, 4, 1)
	m.Hear(said(api.Data, 4, 0, ep(60, 0, 0), 0))
	silent(t, "idle", m, 39)
	sends(t, "claims", m, mine(api.Token, me, myInc, ep(61, me, myInc), 0))
	visits(t, "claims", m, 5, 40)
}

func TestHolds(t *testing.T) {
	holds := []int{Use, Await, Check, Pass, AwaitStatus}
	for _, s := range states() {
		if got := in(t, usual(), s).Holds(); got != slices.Contains(holds, s) {
			t.Errorf("in %d: holds %t", s, got)
		}
	}
	// Some are never to be found between two calls.
	for s := -1; s <= 11; s++ {
		m := &Mac{state: s}
		if m.Holds() != slices.Contains(holds, s) || m.State() != s {
			t.Errorf("%d: holds %t, state %d", s, m.Holds(), m.State())
		}
	}
	names := []int{Offline, Listen, Idle, Claim, Use, Await, Check, Pass, CheckPass, AwaitStatus}
	for i, s := range names {
		if s != i {
			t.Errorf("state %d is %d", i, s)
		}
	}
	if None != 0 || Own != 1 || HighData != 2 || LowData != 3 {
		t.Error("what is sent")
	}
}

// anyFrames are frames of all kinds that may be, and such that may not.
func anyFrames() []api.Frame {
	all := wrongFrames()
	for _, kind := range []int{api.Token, api.Poll, api.Status, api.Data, api.Leave} {
		for _, src := range []int{0, 1, me, 4, 31} {
			for _, dst := range []int{0, me, 31} {
				all = append(all, said(kind, src, dst, ep(0, 0, 0), 0), said(kind, src, dst, e5(), 65535), said(kind, src, dst, ep(65535, 31, 65535), 65535))
			}
		}
	}
	return all
}

func TestNothingThere(t *testing.T) {
	var m *Mac
	for range 2 {
		for _, f := range anyFrames() {
			m.Hear(f)
		}
		for _, high := range counts() {
			for _, low := range counts() {
				tick(t, "nil", m, high, low, api.Frame{}, None)
			}
		}
		m.Want(true)
		m.Want(false)
		for _, addr := range append(ends(), 0, 1, 5, 30, 31) {
			if m.Ask(addr) {
				t.Errorf("nil: Ask(%d)", addr)
			}
		}
		if got := see(m); got != (seen{}) {
			t.Errorf("nil: %v", got)
		}
	}
}

func TestAMacThatNewDidNotMake(t *testing.T) {
	for _, m := range []*Mac{{}, new(Mac)} {
		for range 3 {
			for _, f := range anyFrames() {
				m.Hear(f)
				m.Tick(1, 1)
			}
			m.Want(true)
			for _, addr := range append(ends(), 0, 1, 5, 30, 31) {
				m.Ask(addr)
			}
			for range 300 {
				m.Tick(0, 0)
			}
			see(m)
		}
	}
}

// twin is a mac in another way: epochs and marks are numbers, what happened is kept by the clock at which it did, the list as yes and no of each address, and it goes on from state to state in a loop.
type twin struct {
	c                         api.Cluster
	addr, inc                 int
	state                     int
	wants, leaving, fault     bool
	now, sound, timerFrom     int
	arrivals                  []int
	in                        [32]bool
	incs                      map[int]int
	high, token, mark, heard  uint64
	partner, passedInc, tries int
	answered                  bool
	askedInGap, toAsk         int
	polls                     []api.Frame
}

// epochNumber is greater of a greater epoch.
func epochNumber(e api.Epoch) uint64 {
	return uint64(e.Count)<<24 | uint64(e.Addr)<<16 | uint64(e.Inc)
}

func epochOf(n uint64) api.Epoch {
	return api.Epoch{Count: uint16(n >> 24), Addr: uint8(n >> 16), Inc: uint16(n)}
}

func markNumber(m api.Mark) uint64 { return epochNumber(m.Epoch)<<16 | uint64(m.Hop) }

func newTwin(c api.Cluster, addr, inc int, wants bool) *twin {
	return &twin{c: c, addr: addr, inc: inc, state: Listen, wants: wants, incs: map[int]int{addr: inc}, askedInGap: addr, toAsk: -1}
}

func (w *twin) list() api.Set {
	var set api.Set
	for a, in := range w.in {
		if in {
			set |= 1 << a
		}
	}
	return set
}

func (w *twin) turn() int {
	n := len(w.arrivals)
	if n < 2 {
		return 0
	}
	return w.arrivals[n-1] - w.arrivals[n-2]
}

func (w *twin) seen() seen {
	holds := map[int]bool{Use: true, Await: true, Check: true, Pass: true, AwaitStatus: true}[w.state]
	return seen{w.state, holds, api.Mark{Epoch: epochOf(w.token >> 16), Hop: uint16(w.token)}, epochOf(w.high), w.list(), len(w.arrivals), w.turn(), w.fault}
}

func (w *twin) arrives() {
	w.arrivals = append(w.arrivals, w.now)
	w.state = Use
}

// mints tells whether it could.
func (w *twin) mints() bool {
	count := w.high >> 24
	if count >= uint64(w.c.Limit) || count >= 65535 {
		w.state, w.fault = Offline, true
		return false
	}
	fresh := (count+1)<<24 | uint64(w.addr)<<16 | uint64(w.inc)
	w.high, w.token = fresh, fresh<<16
	return true
}

// hops tells whether it could.
func (w *twin) hops() bool {
	if w.token&65535 == 65535 && !w.mints() {
		return false
	}
	w.token++
	return true
}

func (w *twin) next() (int, bool) {
	for a := w.addr + 1; a < w.addr+32; a++ {
		if w.in[a%32] {
			return a % 32, true
		}
	}
	return 0, false
}

// inGap tells whom it would ask in its gap.
func (w *twin) inGap() (int, bool) {
	end := w.addr + 32
	if next, ok := w.next(); ok {
		end = (next-w.addr+32)%32 + w.addr
	}
	gap := map[int]bool{}
	for a := w.addr + 1; a < end; a++ {
		if a%32 <= w.c.Top {
			gap[a%32] = true
		}
	}
	for a := w.askedInGap + 1; a <= w.askedInGap+32; a++ {
		if gap[a%32] {
			return a % 32, true
		}
	}
	return 0, false
}

func (w *twin) sent(kind, dst, dstInc int) (api.Frame, int) {
	e := epochOf(w.token >> 16)
	return api.Frame{Kind: kind, Src: uint8(w.addr), SrcInc: uint16(w.inc), Dst: uint8(dst), DstInc: uint16(dstInc), Epoch: e, Hop: uint16(w.token)}, Own
}

func (w *twin) asks(addr, state int) (api.Frame, int) {
	w.state, w.timerFrom, w.partner, w.answered = state, w.now, addr, false
	return w.sent(api.Poll, addr, w.incs[addr])
}

func (w *twin) tick(high, low int) (api.Frame, int) {
	if w.state == Offline {
		return api.Frame{}, None
	}
	w.now++
	var f api.Frame
	what := Own
	if n := len(w.polls); n > 0 {
		poll := w.polls[n-1]
		w.polls = nil
		f = api.Frame{Kind: api.Status, Src: uint8(w.addr), SrcInc: uint16(w.inc), Dst: poll.Src, DstInc: poll.SrcInc, Epoch: poll.Epoch, Hop: poll.Hop}
		f.High, f.Wants = epochOf(w.high), w.wants
	} else {
		for going := true; going; {
			f, what, going = w.step(high, low)
		}
	}
	if what != None {
		w.sound = w.now
	}
	return f, what
}

// step does what one state asks for, and tells whether it goes on at once.
func (w *twin) step(high, low int) (f api.Frame, what int, going bool) {
	timer := w.now - w.timerFrom
	switch w.state {
	case Listen, Idle:
		if w.wants && w.now-w.sound >= w.c.Slot*4+w.c.Slot*2*w.addr {
			w.state = Claim
			going = true
		}
	case Claim:
		if w.mints() {
			w.in = [32]bool{}
			w.in[w.addr] = true
			w.mark, w.heard = w.token, w.token
			w.arrives()
			f, what = w.sent(api.Token, w.addr, w.inc)
		}
	case Use:
		going = true
		if !w.wants {
			w.leaving, w.in[w.addr] = true, false
			w.state = Pass
			break
		}
		w.state = Check
		if high > 0 {
			f, what = w.sent(api.Data, 0, 0)
			return f, HighData, false
		}
	case Check:
		f, what = w.checks(high, low)
		if what == None {
			w.state = Pass
			going = true
		}
	case Await, AwaitStatus:
		if w.answered || timer >= w.c.Slot {
			w.state = map[int]int{Await: Check, AwaitStatus: Pass}[w.state]
			going = true
		}
	case Pass:
		f, what = w.passes()
	case CheckPass:
		switch {
		case timer < w.c.Slot:
		case w.tries < w.c.Retry:
			w.tries++
			w.timerFrom = w.now
			f, what = w.sent(w.kind(), w.partner, w.passedInc)
		default:
			w.in[w.partner] = false
			if w.mints() {
				w.state = Pass
				going = true
			}
		}
	}
	return f, what, going
}

func (w *twin) kind() int {
	if w.leaving {
		return api.Leave
	}
	return api.Token
}

func (w *twin) checks(high, low int) (api.Frame, int) {
	if w.turn()+w.now-w.arrivals[len(w.arrivals)-1] < w.c.TTR {
		f, _ := w.sent(api.Data, 0, 0)
		if high > 0 {
			return f, HighData
		}
		if low > 0 {
			return f, LowData
		}
		if asked := w.toAsk; asked >= 0 {
			w.toAsk = -1
			return w.asks(asked, Await)
		}
	}
	if asked, ok := w.inGap(); ok && len(w.arrivals)%w.c.Gap == 0 {
		w.askedInGap = asked
		return w.asks(asked, AwaitStatus)
	}
	return api.Frame{}, None
}

func (w *twin) passes() (api.Frame, int) {
	if w.high > w.token>>16 && !w.mints() {
		return api.Frame{}, None
	}
	next, ok := w.next()
	if !ok && w.leaving {
		w.leaving, w.state = false, Listen
		return api.Frame{}, None
	}
	if !w.hops() {
		return api.Frame{}, None
	}
	w.mark, w.heard = w.token, w.token
	if !ok {
		w.arrives()
		return w.sent(api.Token, w.addr, w.inc)
	}
	w.state, w.timerFrom, w.tries = CheckPass, w.now, 0
	w.partner, w.passedInc = next, w.incs[next]
	return w.sent(w.kind(), next, w.passedInc)
}

func (w *twin) hear(f api.Frame) {
	src, dst := int(f.Src), int(f.Dst)
	if w.state == Offline || !frame.Right(f) || src == w.addr || int(f.SrcInc) < w.incs[src] {
		return
	}
	w.incs[src], w.sound = int(f.SrcInc), w.now
	its := dst == w.addr && int(f.DstInc) == w.inc
	if f.Kind == api.Status {
		w.high = max(w.high, epochNumber(f.High))
		if (w.state == Await || w.state == AwaitStatus) && w.partner == src && its {
			w.answered = true
			w.in[src] = f.Wants && (w.in[src] || w.state == AwaitStatus)
		}
		return
	}
	if f.Kind == api.Poll && dst == w.addr {
		w.polls = append(w.polls, f)
	}
	e, m := epochNumber(f.Epoch), epochNumber(f.Epoch)<<16|uint64(f.Hop)
	if e < w.high {
		return
	}
	if e > w.high && w.state != Listen && w.state != Idle {
		w.state, w.leaving = Idle, false
	}
	w.high = e
	if w.state == CheckPass && m >= w.token {
		w.state = map[bool]int{false: Idle, true: Listen}[w.leaving]
		w.leaving = false
	}
	if f.Kind != api.Token && f.Kind != api.Leave || m < w.heard {
		return
	}
	w.heard = m
	for a := src + 1; a%32 != dst; a++ {
		w.in[a%32] = false
	}
	w.in[src], w.in[dst] = true, true
	if f.Kind == api.Leave {
		w.in[src] = false
	}
	if its && m > w.mark {
		w.mark, w.token, w.leaving = m, m, false
		w.arrives()
	} else if w.state == Idle && !w.in[w.addr] {
		w.state = Listen
	}
}

func (w *twin) ask(addr int) bool {
	if addr < 0 || addr > 31 || addr == w.addr {
		return false
	}
	w.toAsk = addr
	return true
}

// both are a mac and its twin, of which the same is asked.
type both struct {
	m *Mac
	w *twin
}

func newBoth(t testing.TB, c api.Cluster, addr, inc int, wants bool) both {
	return both{fresh(t, c, addr, inc, wants), newTwin(c, addr, inc, wants)}
}

// act is something that is asked of both.
type act struct {
	kind      int
	high, low int
	f         api.Frame
	wants     bool
	addr      int
}

// The kinds of acts.
const (
	ticks = iota
	hears
	wanting
	asking
)

// do asks the same of both, and tells whether they answer the same.
func (b both) do(a act) bool {
	switch a.kind {
	case ticks:
		f, what := b.m.Tick(a.high, a.low)
		g, want := b.w.tick(a.high, a.low)
		return f == g && what == want && b.alike()
	case hears:
		b.m.Hear(a.f)
		b.w.hear(a.f)
	case wanting:
		b.m.Want(a.wants)
		b.w.wants = a.wants
	case asking:
		return b.m.Ask(a.addr) == b.w.ask(a.addr) && b.alike()
	}
	return b.alike()
}

func (b both) alike() bool { return see(b.m) == b.w.seen() }

// moves are acts that hang on how far the mac has come: each of them is at an edge of something.
func moves() map[string]func(m *Mac) act {
	heard := func(change func(f *api.Frame, m *Mac), kind, src, dst int) func(m *Mac) act {
		return func(m *Mac) act {
			f := said(kind, src, dst, m.Token().Epoch, int(m.Token().Hop))
			change(&f, m)
			return act{kind: hears, f: f}
		}
	}
	same := func(f *api.Frame, m *Mac) {}
	next := func(f *api.Frame, m *Mac) { f.Hop++ }
	ahead := func(f *api.Frame, m *Mac) { f.Hop-- }
	greater := func(f *api.Frame, m *Mac) { f.Epoch, f.Hop = m.High(), 0; f.Epoch.Count++ }
	high := func(f *api.Frame, m *Mac) { f.Epoch, f.Hop = m.High(), 0 }
	wants := func(f *api.Frame, m *Mac) { f.Wants = true }
	knows := func(f *api.Frame, m *Mac) { f.High = m.High(); f.High.Inc++ }
	booted := func(f *api.Frame, m *Mac) { f.SrcInc++; f.Hop-- }
	always := func(a act) func(m *Mac) act { return func(m *Mac) act { return a } }
	return map[string]func(m *Mac) act{
		"tick":              always(act{}),
		"tick, high":        always(act{high: 1, low: 1}),
		"tick, low":         always(act{low: 1}),
		"wants":             always(act{kind: wanting, wants: true}),
		"doesn't want":      always(act{kind: wanting}),
		"asks 3":            always(act{kind: asking, addr: 3}),
		"token to it":       heard(next, api.Token, 4, me),
		"same token to it":  heard(same, api.Token, 4, me),
		"token of High":     heard(high, api.Token, 4, me),
		"greater token":     heard(greater, api.Token, 3, me),
		"token beside it":   heard(next, api.Token, 3, 4),
		"token by it":       heard(same, api.Token, 4, 3),
		"leave to it":       heard(next, api.Leave, 4, me),
		"leave by it":       heard(same, api.Leave, 4, 3),
		"data":              heard(same, api.Data, 4, 0),
		"data ahead of it":  heard(ahead, api.Data, 4, 0),
		"greater data":      heard(greater, api.Data, 4, 0),
		"data of a new 4":   heard(booted, api.Data, 4, 0),
		"poll":              heard(same, api.Poll, 4, me),
		"poll ahead of it":  heard(ahead, api.Poll, 3, me),
		"poll of another":   heard(same, api.Poll, 4, 3),
		"status of 3, in":   heard(wants, api.Status, 3, me),
		"status of 3, out":  heard(same, api.Status, 3, me),
		"status of 4, out":  heard(same, api.Status, 4, me),
		"status of 3, high": heard(knows, api.Status, 3, me),
	}
}

// names are those of some moves, sorted.
func names(all map[string]func(m *Mac) act) []string {
	var list []string
	for name := range all {
		list = append(list, name)
	}
	slices.Sort(list)
	return list
}

// begun tells a mac and its twin behind some moves.
func begun(t testing.TB, c api.Cluster, all map[string]func(m *Mac) act, list []string) both {
	t.Helper()
	b := newBoth(t, c, me, myInc, true)
	for i, name := range list {
		if !b.do(all[name](b.m)) {
			t.Fatalf("%v at %d: %v, want %v", list, i, see(b.m), b.w.seen())
		}
	}
	return b
}

// times tells a list of one name, so many times.
func times(name string, n int) []string {
	return slices.Repeat([]string{name}, n)
}

func TestAllShortRuns(t *testing.T) {
	all := moves()
	list := names(all)
	// Ways to each state; the fourth part of a Slot is there where the moves end, so that timers come to their ends.
	starts := [][]string{
		{},
		{"token to it"},
		{"token to it", "tick"},
		{"token to it", "tick", "tick", "tick", "tick"},
		{"token to it", "tick", "data"},
		{"token to it", "asks 3", "tick"},
		{"token to it", "asks 3", "tick", "tick", "tick", "tick"},
		{"token to it", "tick, high"},
		{"token to it", "doesn't want", "tick"},
		{"token to it", "doesn't want", "tick", "tick", "tick", "tick"},
		{"token to it", "token to it", "tick"},
		{"token to it", "token to it", "tick", "tick", "tick", "tick"},
		times("tick", 31),
	}
	for _, limit := range []int{1, 1000} {
		c := ring(4, 3, 2, 1, limit, 6)
		for _, start := range starts {
			for _, a := range list {
				for _, b := range list {
					for _, d := range list {
						begun(t, c, all, append(slices.Clone(start), a, b, d, "tick"))
					}
				}
			}
		}
	}
}

// dice are numbers that are drawn, the same ones in each run.
type dice struct{ n uint64 }

func (d *dice) roll(below int) int {
	d.n = d.n*6364136223846793005 + 1442695040888963407
	return int(d.n>>33) % below
}

func (d *dice) one(list ...int) int { return list[d.roll(len(list))] }

// numbers tells a cluster's numbers, near their ends more often than not.
func (d *dice) numbers() api.Cluster {
	return ring(
		d.one(4, 4, 5, 6, 50),
		d.one(1, 2, 3, 8, 20, 100, 10000),
		d.one(1, 1, 2, 3, 50),
		d.roll(4),
		d.one(1, 2, 3, 6, 20, 100, 1000, 65535),
		d.one(3, 4, 6, 31))
}

// near tells an epoch at, beside or far from those that the mac knows.
func (d *dice) near(m *Mac) api.Epoch {
	e := m.High()
	if d.roll(3) == 0 {
		e = m.Token().Epoch
	}
	switch d.roll(14) {
	case 0:
		e.Count++
	case 1:
		e.Count--
	case 2:
		e.Addr = uint8(d.roll(32))
	case 3:
		e.Inc++
	case 4:
		e.Inc--
	case 5:
		if d.roll(30) == 0 {
			e.Count = uint16(d.roll(65536))
		}
	}
	return e
}

// heard tells a frame that the mac may be told, often one that matters.
func (d *dice) heard(b both) api.Frame {
	m := b.m
	f := api.Frame{
		Kind: 1 + d.roll(5), Src: uint8(d.roll(5)), SrcInc: uint16(3 + d.roll(2)),
		Dst: uint8(b.w.addr), DstInc: uint16(b.w.inc),
		Epoch: d.near(m), Hop: m.Token().Hop,
	}
	f.Hop += uint16(d.one(0, 0, 1, 1, 1, 2, 5, 65535))
	if d.roll(200) == 0 {
		f.Hop = uint16(d.one(0, 65534, 65535, d.roll(65536)))
	}
	if d.roll(3) == 0 {
		f.Dst = uint8(d.roll(6))
	}
	if d.roll(12) == 0 {
		f.DstInc += uint16(d.one(1, 65535))
	}
	if d.roll(4) == 0 && f.Kind == api.Status {
		f.High = d.near(m)
	}
	switch f.Kind {
	case api.Status:
		f.Wants = d.roll(3) > 0
		if d.roll(2) == 0 {
			f.Src = uint8(b.w.partner)
		}
	case api.Data:
		f.Dst, f.DstInc = 0, 0
		f.Parts, f.Bytes = 1, "x"
	}
	if d.roll(25) == 0 {
		wrong := wrongFrames()
		return wrong[d.roll(len(wrong))]
	}
	return f
}

// act tells something to ask of a mac, a tick more often the calmer it is.
func (d *dice) act(b both, calm int) act {
	if d.roll(calm) > 0 {
		return act{high: d.one(0, 0, 0, 1, -1), low: d.one(0, 0, 0, 0, 1, -1)}
	}
	switch d.roll(10) {
	case 0:
		return act{kind: wanting, wants: d.roll(3) > 0}
	case 1:
		return act{kind: asking, addr: d.one(-1, 0, 1, 2, 3, 4, 5, 31, 32)}
	}
	return act{kind: hears, f: d.heard(b)}
}

func TestDrawnRuns(t *testing.T) {
	d := &dice{21}
	been := map[int]int{}
	faults := 0
	for run := range 3000 {
		c := d.numbers()
		b := newBoth(t, c, d.roll(4), d.one(0, 1, 7, 65534, 65535), d.roll(4) > 0)
		calm := d.one(2, 3, 5, 12, 40)
		for i := range 300 {
			a := d.act(b, calm)
			if !b.do(a) {
				t.Fatalf("run %d, act %d, %v: %v: %v, want %v", run, i, c, a, see(b.m), b.w.seen())
			}
			been[b.m.State()]++
		}
		if b.m.Fault() {
			faults++
		}
	}
	for _, s := range append(states(), Offline) {
		if been[s] < 5000 {
			t.Errorf("in %d: %d times", s, been[s])
		}
	}
	if faults < 100 || faults > 2900 {
		t.Errorf("%d faults", faults)
	}
}

// witness sees what a mac takes, passes and mints.
type witness struct {
	m         *Mac
	addr, inc int
	last      uint64
	sent      uint64
	known     uint64
}

// rises asks that a mark is greater than all that the mac took or passed.
func (w *witness) rises(t testing.TB, what string, mark api.Mark) {
	t.Helper()
	if n := markNumber(mark); n > w.last {
		w.last = n
	} else {
		t.Fatalf("%d.%d %s %v, but had %x", w.addr, w.inc, what, mark, w.last)
	}
}

// hear lets the mac hear a frame, and looks at what it takes.
func (w *witness) hear(t testing.TB, f api.Frame) {
	t.Helper()
	before, _ := w.m.Visits()
	w.m.Hear(f)
	if n, _ := w.m.Visits(); n > before {
		w.rises(t, "takes", w.m.Token())
		if w.m.Token() != markOf(f) || w.m.State() != Use {
			t.Fatalf("takes %v of %v", w.m.Token(), f)
		}
	}
	w.known = max(w.known, epochNumber(w.m.High()))
}

// tick lets it tick, and looks at what it passes and mints.
func (w *witness) tick(t testing.TB, high, low int) (api.Frame, int) {
	t.Helper()
	token := w.m.Token()
	f, what := w.m.Tick(high, low)
	now := w.m.Token()
	if now.Epoch != token.Epoch {
		if e := epochNumber(now.Epoch); e <= w.known || int(now.Epoch.Addr) != w.addr || int(now.Epoch.Inc) != w.inc || w.m.High() != now.Epoch {
			t.Fatalf("%d.%d mints %v, but knew %x", w.addr, w.inc, now.Epoch, w.known)
		}
	}
	w.known = max(w.known, epochNumber(w.m.High()))
	passes := what == Own && (f.Kind == api.Token || f.Kind == api.Leave)
	if passes && markNumber(markOf(f)) != w.sent {
		w.sent = markNumber(markOf(f))
		w.rises(t, "passes", markOf(f))
	}
	return f, what
}

func TestWhatItTakesPassesAndMintsRises(t *testing.T) {
	d := &dice{212}
	for run := range 2000 {
		addr, inc := d.roll(4), d.one(0, 7, 65535)
		c := d.numbers()
		b := newBoth(t, c, addr, inc, true)
		w := &witness{m: b.m, addr: addr, inc: inc}
		calm := d.one(2, 3, 12)
		for range 200 {
			// The twin isn't asked here; whom it asked last is anyone.
			b.w.partner = d.roll(5)
			switch a := d.act(b, calm); a.kind {
			case ticks:
				w.tick(t, a.high, a.low)
			case hears:
				w.hear(t, a.f)
			case wanting:
				b.m.Want(a.wants)
			case asking:
				b.m.Ask(a.addr)
			}
		}
		if t.Failed() {
			t.Fatal(run)
		}
	}
}

// late is a frame that is under way to some.
type late struct {
	f  api.Frame
	to int
}

// town is several macs that hear one another by a bus that loses, doubles and holds up.
type town struct {
	c     api.Cluster
	macs  map[int]*witness
	incs  map[int]int
	under []late
	given map[api.Mark][2]int
}

func newTown(c api.Cluster) *town {
	return &town{c: c, macs: map[int]*witness{}, incs: map[int]int{}, given: map[api.Mark][2]int{}}
}

// boots lets one come (back), in another incarnation.
func (n *town) boots(t testing.TB, addr int, wants bool) {
	n.incs[addr]++
	n.macs[addr] = &witness{m: fresh(t, n.c, addr, n.incs[addr], wants), addr: addr, inc: n.incs[addr]}
}

// addrs are those of the macs, rising.
func (n *town) addrs() []int {
	var list []int
	for a := range 32 {
		if n.macs[a] != nil {
			list = append(list, a)
		}
	}
	return list
}

// sends puts a frame under way to all others, and asks that each mark of a Token or a Leave goes to one alone.
func (n *town) sends(t testing.TB, from int, f api.Frame, what int) {
	t.Helper()
	if what == None {
		return
	}
	if what != Own {
		f.Parts, f.Bytes = 1, "x"
	}
	if !frame.Right(f) {
		t.Fatalf("%d sends %v", from, f)
	}
	if f.Kind == api.Token || f.Kind == api.Leave {
		to := [2]int{int(f.Dst), int(f.DstInc)}
		if had, ok := n.given[markOf(f)]; ok && had != to {
			t.Fatalf("%v goes to %v and %v", markOf(f), had, to)
		}
		n.given[markOf(f)] = to
	}
	for _, a := range n.addrs() {
		if a != from {
			n.under = append(n.under, late{f, a})
		}
	}
}

// delivers lets what is under way come, but for what the dice lose, double and hold up.
func (n *town) delivers(t testing.TB, d *dice, wild int) {
	t.Helper()
	var held []late
	for _, one := range n.under {
		fate := 99
		if wild > 0 {
			fate = d.roll(wild)
		}
		if fate == 0 {
			continue
		}
		if fate == 1 || fate == 2 {
			held = append(held, one)
		}
		if w := n.macs[one.to]; w != nil && fate != 2 {
			w.hear(t, one.f)
			n.alone(t)
		}
	}
	n.under = held
}

// alone asks that no epoch is held by two.
func (n *town) alone(t testing.TB) {
	t.Helper()
	holders := map[api.Epoch]int{}
	for a, w := range n.macs {
		if w.m.Holds() {
			if other, ok := holders[w.m.Token().Epoch]; ok {
				t.Fatalf("%v is held by %d and %d", w.m.Token(), a, other)
			}
			holders[w.m.Token().Epoch] = a
		}
	}
}

// round lets all that is under way come, then lets all tick.
func (n *town) round(t testing.TB, d *dice, wild int) {
	t.Helper()
	n.delivers(t, d, wild)
	for _, a := range n.addrs() {
		w := n.macs[a]
		f, what := w.tick(t, d.one(0, 0, 1), d.one(0, 0, 1))
		n.sends(t, a, f, what)
		n.alone(t)
	}
}

// ringOf tells the members, as all of them have them, and whether they do.
func (n *town) ringOf() (api.Set, bool) {
	var want api.Set
	for a, w := range n.macs {
		if w.m.wants {
			want |= 1 << a
		}
	}
	for a, w := range n.macs {
		if want&(1<<a) != 0 && w.m.List() != want {
			return want, false
		}
	}
	return want, true
}

func TestATownWithoutLoss(t *testing.T) {
	d := &dice{5}
	for run := range 60 {
		n := newTown(ring(4, d.one(1, 20, 200), d.one(1, 2, 5), d.roll(4), 60000, d.one(5, 9)))
		for a := range n.c.Top + 1 {
			if d.roll(2) == 0 {
				n.boots(t, a, d.roll(5) > 0)
			}
		}
		for range 3000 {
			n.round(t, d, 0)
		}
		want, ok := n.ringOf()
		if !ok {
			t.Fatalf("run %d: not all have the list %b", run, want)
		}
		// One of them leaves, another one comes, and all know soon.
		if list := n.addrs(); len(list) > 1 {
			n.macs[list[0]].m.Want(false)
			n.macs[list[1]].m.Want(true)
		}
		for range 1500 {
			n.round(t, d, 0)
		}
		if want, ok = n.ringOf(); !ok {
			t.Fatalf("run %d: behind it not all have the list %b", run, want)
		}
		// And it stays so.
		for range 200 {
			n.round(t, d, 0)
			if got, ok := n.ringOf(); !ok || got != want {
				t.Fatalf("run %d: it didn't stay", run)
			}
		}
	}
}

func TestATownWithLoss(t *testing.T) {
	d := &dice{6}
	for run := range 150 {
		n := newTown(ring(4, d.one(1, 20, 200), d.one(1, 2, 5), d.roll(4), d.one(20, 60000), d.one(3, 5)))
		for a := range n.c.Top + 1 {
			n.boots(t, a, true)
		}
		wild := d.one(3, 6, 12, 60)
		for range 600 {
			n.round(t, d, wild)
			a := d.roll(n.c.Top + 1)
			switch d.roll(100) {
			case 0:
				// It loses power, and what is under way to it comes to the next incarnation.
				n.boots(t, a, d.roll(4) > 0)
			case 1:
				n.macs[a].m.Want(d.roll(3) > 0)
			case 2:
				n.macs[a].m.Ask(d.roll(6))
			case 3:
				n.delivers(t, d, wild)
			}
		}
		if t.Failed() {
			t.Fatal(run)
		}
	}
}

// The examples of the whole that are of this layer: who lost power is skipped by a new epoch; if it held the token, the first one whose silence is over claims it.
func TestAMemberIsGone(t *testing.T) {
	d := &dice{7}
	for run := range 40 {
		n := newTown(ring(4, 20, 2, d.roll(3), 60000, 4))
		for _, a := range []int{0, 1, 3} {
			n.boots(t, a, true)
		}
		for range 500 + run {
			n.round(t, d, 0)
		}
		gone := []int{0, 1, 3}[run%3]
		high := n.macs[1-run%2].m.High()
		delete(n.macs, gone)
		for range 500 {
			n.round(t, d, 0)
		}
		want, ok := n.ringOf()
		if !ok || want != setOf(0, 1, 3)&^setOf(gone) {
			t.Errorf("run %d: not all have the list %b", run, want)
		}
		for a, w := range n.macs {
			if epochNumber(w.m.High()) <= epochNumber(high) {
				t.Errorf("run %d: %d knows %v, as ahead of it", run, a, w.m.High())
			}
		}
	}
}

func TestTwoMacsPlayNoPartForOneAnother(t *testing.T) {
	d, e := &dice{8}, &dice{9}
	for range 100 {
		c := d.numbers()
		a, b := newBoth(t, c, 1, 7, true), newBoth(t, c, 1, 7, true)
		for i := range 200 {
			if !a.do(d.act(a, 3)) || !b.do(e.act(b, 4)) || !a.alike() || !b.alike() {
				t.Fatal(i)
			}
		}
	}
}

func TestWhatIsGivenStaysAsItIs(t *testing.T) {
	code := []api.Instr{{Op: api.LD, Kind: api.Int, N: 1}, {Op: 99}}
	spots := []api.Spot{{Block: 1, At: 2}, {Block: 3, At: 4}}
	blocks := []api.Block{{ID: 1, Addr: 1, Size: 1}, {ID: 2, Addr: 2, Size: 2}, {ID: 3}}
	stations := []api.Station{{Addr: 1, Scan: 1, Code: code[:1], Subs: spots[:1], Pubs: spots[1:]}, {Addr: 2}, {Addr: 3}}
	c := usual()
	c.Blocks, c.Stations = blocks[:2], stations[:2]
	m := fresh(t, c, me, myInc, true)
	f := said(api.Poll, 4, me, e5(), 1)
	g := f
	m.Hear(f)
	for range 100 {
		m.Tick(1, 1)
	}
	if f != g || c.Slot != 5 || c.TTR != 20 || c.Gap != 2 || c.Retry != 2 || c.Limit != 1000 || c.Top != 6 {
		t.Error("what was given isn't as it was")
	}
	if !slices.Equal(blocks, []api.Block{{ID: 1, Addr: 1, Size: 1}, {ID: 2, Addr: 2, Size: 2}, {ID: 3}}) ||
		!slices.Equal(code, []api.Instr{{Op: api.LD, Kind: api.Int, N: 1}, {Op: 99}}) ||
		!slices.Equal(spots, []api.Spot{{Block: 1, At: 2}, {Block: 3, At: 4}}) ||
		stations[0].Addr != 1 || stations[1].Addr != 2 || stations[2].Addr != 3 || len(stations[0].Code) != 1 {
		t.Error("what was given in lists isn't as it was")
	}
	// And nothing of it is kept: a change behind the call plays no part.
	b := newBoth(t, c, me, myInc, true)
	blocks[0], stations[0], spots[0], code[0] = api.Block{}, api.Station{}, api.Spot{}, api.Instr{}
	c.Slot, c.Top = 50, 0
	d := &dice{10}
	for range 500 {
		if !b.do(d.act(b, 4)) {
			t.Fatal("what was given plays a part behind the call")
		}
	}
}

func TestWhatWasAnsweredStays(t *testing.T) {
	d := &dice{11}
	b := newBoth(t, usual(), me, myInc, true)
	type answered struct {
		f, g       api.Frame
		seen, want seen
	}
	var all []answered
	for range 2000 {
		f, _ := b.m.Tick(0, 0)
		g, _ := b.w.tick(0, 0)
		all = append(all, answered{f, g, see(b.m), b.w.seen()})
		b.do(d.act(b, 4))
	}
	for i, one := range all {
		if one.f != one.g || one.seen != one.want {
			t.Fatal(i, one)
		}
	}
}

func TestEveryCallEnds(t *testing.T) {
	// Any cluster at any address.
	some := []int{math.MinInt, -1, 0, 1, 4, 31, 50, 1000, math.MaxInt}
	d := &dice{12}
	for range 20000 {
		c := ring(d.one(some...), d.one(some...), d.one(some...), d.one(some...), d.one(some...), d.one(some...))
		m := New(c, d.one(some...), uint16(d.roll(65536)), d.roll(2) == 0)
		for range 3 {
			m.Tick(d.one(some...), d.one(some...))
			m.Hear(said(d.one(some...), d.roll(256), d.roll(256), ep(d.roll(65536), d.roll(256), d.roll(65536)), d.roll(65536)))
			m.Ask(d.one(some...))
		}
		see(m)
	}
	// Any frame in any state.
	for _, f := range anyFrames() {
		for _, s := range states() {
			m := in(t, usual(), s)
			m.Hear(f)
			for range 50 {
				m.Tick(1, 1)
			}
		}
		offline(t).Hear(f)
	}
	// A mac that ticked for long.
	m := fresh(t, ring(4, 10000, 50, 3, 65535, 31), 31, 65535, true)
	for i := range 2000000 {
		m.Tick(i%3-1, i%2)
	}
	// And one whose epochs go all the way to their end: it is skipped and claims, time and again.
	m = fresh(t, ring(4, 1, 50, 0, 65535, 1), 0, 1, true)
	m.Hear(api.Frame{Kind: api.Token, Src: 1, Dst: 0, DstInc: 1, Epoch: ep(65000, 1, 1)})
	for i := 0; m.State() != Offline; i++ {
		m.Hear(api.Frame{Kind: api.Token, Src: 1, Dst: 0, DstInc: 1, Epoch: m.High(), Hop: 9})
		m.Hear(api.Frame{Kind: api.Status, Src: 1, High: m.High()})
		m.Tick(0, 0)
		if i > 1000000 {
			t.Fatal(see(m))
		}
	}
	over(t, "all the way", m)
}
