package epoch

import (
	"math"
	"strconv"
	"strings"
	"testing"

	"fugleman/api"
)

// epochs are those of all chosen counts, addresses and incarnations, with each other.
func epochs() []api.Epoch {
	all := []api.Epoch{}
	for _, count := range []uint16{0, 1, 255, 256, 257, 32767, 32768, 65534, 65535} {
		for _, addr := range []uint8{0, 1, 31, 32, 127, 128, 255} {
			for _, inc := range []uint16{0, 1, 255, 256, 32768, 65535} {
				all = append(all, api.Epoch{Count: count, Addr: addr, Inc: inc})
			}
		}
	}
	return all
}

// someEpochs are fewer: enough for what is asked of each pair and each hop.
func someEpochs() []api.Epoch {
	return []api.Epoch{
		{}, {Inc: 1}, {Inc: 65535}, {Addr: 1}, {Addr: 1, Inc: 9}, {Addr: 255, Inc: 65535},
		{Count: 1}, {Count: 1, Addr: 2}, {Count: 7, Addr: 3, Inc: 1}, {Count: 256}, {Count: 65534, Addr: 31, Inc: 2},
		{Count: 65535}, {Count: 65535, Addr: 31, Inc: 65535}, {Count: 65535, Addr: 255, Inc: 65535},
	}
}

func hops() []uint16 {
	return []uint16{0, 1, 2, 255, 256, 32767, 32768, 65534, 65535}
}

// height is one number of all that an epoch has, the weightiest first: epochs lie as these numbers do.
func height(e api.Epoch) int64 {
	return int64(e.Count)*(1<<24) + int64(e.Addr)*(1<<16) + int64(e.Inc)
}

func side(a, b int64) int {
	switch {
	case a < b:
		return -1
	case a > b:
		return 1
	}
	return 0
}

func TestCompare(t *testing.T) {
	for _, c := range []struct {
		name string
		a, b api.Epoch
		want int
	}{
		{"nothing", api.Epoch{}, api.Epoch{}, 0},
		{"equal", api.Epoch{Count: 7, Addr: 3, Inc: 1}, api.Epoch{Count: 7, Addr: 3, Inc: 1}, 0},
		{"Count alone", api.Epoch{Count: 7, Addr: 3, Inc: 1}, api.Epoch{Count: 8, Addr: 3, Inc: 1}, -1},
		{"Addr alone", api.Epoch{Count: 7, Addr: 3, Inc: 1}, api.Epoch{Count: 7, Addr: 4, Inc: 1}, -1},
		{"Inc alone", api.Epoch{Count: 7, Addr: 3, Inc: 1}, api.Epoch{Count: 7, Addr: 3, Inc: 2}, -1},
		{"Count against both others", api.Epoch{Count: 7, Addr: 31, Inc: 65535}, api.Epoch{Count: 8}, -1},
		{"Count against Addr", api.Epoch{Count: 7, Addr: 31}, api.Epoch{Count: 8}, -1},
		{"Count against Inc", api.Epoch{Count: 7, Inc: 65535}, api.Epoch{Count: 8}, -1},
		{"Addr against Inc", api.Epoch{Count: 7, Addr: 3, Inc: 65535}, api.Epoch{Count: 7, Addr: 4}, -1},
		{"far apart", api.Epoch{}, api.Epoch{Count: 65535, Addr: 255, Inc: 65535}, -1},
	} {
		if got := Compare(c.a, c.b); got != c.want {
			t.Errorf("%s: %d, want %d", c.name, got, c.want)
		}
		if got := Compare(c.b, c.a); got != -c.want {
			t.Errorf("%s, turned: %d, want %d", c.name, got, -c.want)
		}
	}
}

func TestCompareAndMaxOfAllPairs(t *testing.T) {
	all := epochs()
	for _, a := range all {
		for _, b := range all {
			want, greater := side(height(a), height(b)), a
			if want < 0 {
				greater = b
			}
			if got := Compare(a, b); got != want {
				t.Fatalf("Compare(%v, %v) = %d, want %d", a, b, got, want)
			}
			if got := Max(a, b); got != greater {
				t.Fatalf("Max(%v, %v) = %v", a, b, got)
			}
		}
	}
}

func TestMax(t *testing.T) {
	low, high := api.Epoch{Count: 7, Addr: 31, Inc: 65535}, api.Epoch{Count: 8, Addr: 1, Inc: 2}
	for _, got := range []api.Epoch{Max(low, high), Max(high, low), Max(high, high), Max(high, api.Epoch{}), Max(api.Epoch{}, high)} {
		if got != high {
			t.Errorf("%v, want %v", got, high)
		}
	}
	if got := Max(api.Epoch{}, api.Epoch{}); got != (api.Epoch{}) {
		t.Errorf("of nothing: %v", got)
	}
}

func TestNewer(t *testing.T) {
	for _, a := range someEpochs() {
		for _, b := range someEpochs() {
			for _, hopA := range hops() {
				for _, hopB := range hops() {
					want := side(height(a), height(b)) > 0 || a == b && hopA > hopB
					if got := Newer(api.Mark{Epoch: a, Hop: hopA}, api.Mark{Epoch: b, Hop: hopB}); got != want {
						t.Fatalf("Newer(%v/%d, %v/%d) = %v", a, hopA, b, hopB, got)
					}
				}
			}
		}
	}
}

func TestNewerOfHopsAlone(t *testing.T) {
	e := api.Epoch{Count: 7, Addr: 3, Inc: 1}
	four, five := api.Mark{Epoch: e, Hop: 4}, api.Mark{Epoch: e, Hop: 5}
	if !Newer(five, four) || Newer(four, five) || Newer(five, five) {
		t.Error("marks of one epoch")
	}
	late := api.Mark{Epoch: api.Epoch{Count: 7, Addr: 3}, Hop: 65535}
	if !Newer(four, late) || Newer(late, four) {
		t.Error("the hop weighs more than the epoch")
	}
}

func TestMint(t *testing.T) {
	none := api.Epoch{}
	for _, c := range []struct {
		name  string
		count uint16
		limit int
		ok    bool
	}{
		{"from nothing", 0, api.MaxCount, true},
		{"from nothing, once", 0, 1, true},
		{"a limit of 0", 0, 0, false},
		{"above a limit of 0", 5, 0, false},
		{"a limit below 0", 0, -1, false},
		{"far below 0", 7, -1 << 40, false},
		{"the least limit", 0, math.MinInt, false},
		{"one below the limit", 6, 7, true},
		{"at the limit", 7, 7, false},
		{"one above the limit", 8, 7, false},
		{"from one byte to two", 255, 256, true},
		{"one below the end", 65534, 65535, true},
		{"one below the end, at the limit", 65534, 65534, false},
		{"the end", 65535, 65535, false},
		{"the end, a limit one above", 65535, 65536, false},
		{"one below the end, a limit one above", 65534, 65536, true},
		{"below a limit of more than two bytes", 0, 65536, true},
		{"above the low bytes of a limit", 9, 65536 + 5, true},
		{"a very great limit", 65534, math.MaxInt, true},
		{"the end, a very great limit", 65535, math.MaxInt, false},
		{"the end, a limit of four bytes and more", 65535, 1 << 40, false},
	} {
		for _, other := range someEpochs() {
			high := api.Epoch{Count: c.count, Addr: other.Addr, Inc: other.Inc}
			want := none
			if c.ok {
				want = api.Epoch{Count: c.count + 1, Addr: 2, Inc: 4}
			}
			if got, ok := Mint(high, 2, 4, c.limit); got != want || ok != c.ok {
				t.Errorf("%s: Mint(%v, 2, 4, %d) = %v, %v", c.name, high, c.limit, got, ok)
			}
		}
	}
}

func TestMintOfEveryAddressAndIncarnation(t *testing.T) {
	for addr := range 256 {
		for _, inc := range hops() {
			want := api.Epoch{Count: 8, Addr: uint8(addr), Inc: inc}
			if got, ok := Mint(api.Epoch{Count: 7, Addr: 3, Inc: 1}, uint8(addr), inc, 8); !ok || got != want {
				t.Errorf("Mint for %d, %d: %v, %v", addr, inc, got, ok)
			}
		}
	}
}

func TestMintOfEveryCount(t *testing.T) {
	for count := range 65536 {
		got, ok := Mint(api.Epoch{Count: uint16(count)}, 1, 1, api.MaxCount)
		if ok != (count < 65535) || ok && int(got.Count) != count+1 || !ok && got != (api.Epoch{}) {
			t.Fatalf("behind %d: %v, %v", count, got, ok)
		}
	}
}

// TestWhatIsMintedIsNewAndItsMintersOwn holds P3.2.
func TestWhatIsMintedIsNewAndItsMintersOwn(t *testing.T) {
	type maker struct {
		addr uint8
		inc  uint16
	}
	makers := []maker{}
	for _, addr := range []uint8{0, 1, 2, 30, 31, 255} {
		for _, inc := range []uint16{0, 1, 2, 255, 256, 65535} {
			makers = append(makers, maker{addr, inc})
		}
	}
	madeBy := map[api.Epoch]maker{}
	for _, high := range epochs() {
		for _, m := range makers {
			made, ok := Mint(high, m.addr, m.inc, api.MaxCount)
			if !ok {
				if high.Count != api.MaxCount || made != (api.Epoch{}) {
					t.Errorf("behind %v nothing is minted", high)
				}
				continue
			}
			if height(made) <= height(high) || Compare(made, high) != 1 || Max(made, high) != made {
				t.Errorf("%v isn't greater than %v", made, high)
			}
			if !Newer(api.Mark{Epoch: made}, api.Mark{Epoch: high, Hop: 65535}) {
				t.Errorf("the first mark of %v isn't newer than the last one of %v", made, high)
			}
			if other, twice := madeBy[made]; twice && other != m {
				t.Errorf("%v is minted by %v and by %v", made, m, other)
			}
			madeBy[made] = m
		}
	}
}

func TestHop(t *testing.T) {
	for _, e := range someEpochs() {
		for hop := range 65535 {
			want := api.Mark{Epoch: e, Hop: uint16(hop + 1)}
			if got, ok := Hop(api.Mark{Epoch: e, Hop: uint16(hop)}); !ok || got != want {
				t.Fatalf("Hop of %v/%d: %v, %v", e, hop, got, ok)
			}
		}
		if got, ok := Hop(api.Mark{Epoch: e, Hop: 65535}); ok || got != (api.Mark{}) {
			t.Errorf("Hop of %v/65535: %v, %v", e, got, ok)
		}
	}
}

func TestText(t *testing.T) {
	for want, e := range map[string]api.Epoch{
		"0.0.0":           {},
		"7.3.1":           {Count: 7, Addr: 3, Inc: 1},
		"8.2.4":           {Count: 8, Addr: 2, Inc: 4},
		"1.0.0":           {Count: 1},
		"0.1.0":           {Addr: 1},
		"0.0.1":           {Inc: 1},
		"10.20.300":       {Count: 10, Addr: 20, Inc: 300},
		"65535.31.65535":  {Count: 65535, Addr: 31, Inc: 65535},
		"65535.255.65535": {Count: 65535, Addr: 255, Inc: 65535},
		"32768.128.32768": {Count: 32768, Addr: 128, Inc: 32768},
	} {
		if got := Text(e); got != want {
			t.Errorf("Text(%v) = %q, want %q", e, got, want)
		}
		if got, ok := Read(want); !ok || got != e {
			t.Errorf("Read(%q) = %v, %v", want, got, ok)
		}
	}
}

func TestReadOfEveryText(t *testing.T) {
	back := func(e api.Epoch) {
		want := strconv.Itoa(int(e.Count)) + "." + strconv.Itoa(int(e.Addr)) + "." + strconv.Itoa(int(e.Inc))
		if got := Text(e); got != want {
			t.Fatalf("Text(%v) = %q, want %q", e, got, want)
		}
		if got, ok := Read(want); !ok || got != e {
			t.Fatalf("Read(%q) = %v, %v", want, got, ok)
		}
	}
	for _, e := range epochs() {
		back(e)
	}
	for n := range 65536 {
		back(api.Epoch{Count: uint16(n)})
		back(api.Epoch{Addr: uint8(n % 256), Inc: uint16(n)})
	}
}

// plainNumber tells what part stands for, and whether it is written as digits are, up to the greatest.
func plainNumber(part string, greatest int) (int, bool) {
	if part == "" || len(part) > 5 || len(part) > 1 && part[0] == '0' {
		return 0, false
	}
	n := 0
	for i := range len(part) {
		if part[i] < '0' || part[i] > '9' {
			return 0, false
		}
		n = 10*n + int(part[i]-'0')
	}
	return n, n <= greatest
}

// plainRead reads part by part, and holds nothing against Text.
func plainRead(s string) (api.Epoch, bool) {
	parts := strings.Split(s, ".")
	if len(parts) != 3 {
		return api.Epoch{}, false
	}
	count, countOK := plainNumber(parts[0], 65535)
	addr, addrOK := plainNumber(parts[1], 255)
	inc, incOK := plainNumber(parts[2], 65535)
	if !countOK || !addrOK || !incOK {
		return api.Epoch{}, false
	}
	return api.Epoch{Count: uint16(count), Addr: uint8(addr), Inc: uint16(inc)}, true
}

func checkRead(t *testing.T, s string) {
	t.Helper()
	want, wantOK := plainRead(s)
	if got, ok := Read(s); got != want || ok != wantOK {
		t.Fatalf("Read(%q) = %v, %v, want %v, %v", s, got, ok, want, wantOK)
	}
}

func TestReadOfTextsThatAreNone(t *testing.T) {
	none := []string{
		"", ".", "..", "...", "0", "0.0", "0.0.", ".0.0", "0..0", "1.2", "1.2.", "1..3", ".2.3", "1.2.3.", ".1.2.3", "1.2.3.4", "1.2.3.4.5", "1.2..3",
		" ", "1.2.3 ", " 1.2.3", "1 .2.3", "1. 2.3", "1.2 .3", "1.2. 3", "1 2 3", "1.2.3\n", "\t1.2.3", "1.2.3\x00", "\x001.2.3",
		"+1.2.3", "1.+2.3", "1.2.+3", "-1.2.3", "1.-2.3", "1.2.-3", "-0.0.0", "0.-0.0", "0.0.-0", "+0.0.0", "-1.0.0",
		"01.2.3", "1.02.3", "1.2.03", "00.0.0", "0.00.0", "0.0.00", "000000000007.3.1", "7.0000000003.1", "7.3.00000000001", "010.0.0",
		"65536.0.0", "0.256.0", "0.0.65536", "65535.256.65535", "70000.0.0", "0.300.0", "0.0.99999", "131072.0.0", "0.512.0", "0.0.131072", "0.65536.0",
		"4294967296.0.0", "0.4294967296.0", "0.0.4294967296", "9223372036854775808.0.0", "18446744073709551615.0.0", "18446744073709551616.0.0",
		"0.18446744073709551616.0", "0.0.18446744073709551616", "0.0.18446744073709551617", "1" + strings.Repeat("0", 400) + ".0.0", "0.1" + strings.Repeat("0", 400) + ".0", "0.0." + strings.Repeat("9", 400),
		"a.2.3", "1.a.3", "1.2.a", "a", "1.2.3a", "x1.2.3", "0x1.2.3", "1.0x2.3", "1.2.0b1", "0o7.0.0", "1_0.0.0", "1.1_0.0", "1.1.1_0", "1e1.0.0", "1,2,3", "1/2/3", "1:2:3",
		"1.2.3/4", "ff.0.0", "\u0661.2.3", "1\u3002 2.3", "\uff11.2.3", "\xff.2.3", "1.2.\xb2", "token 3 > 5 8.3.1/4",
	}
	for _, s := range none {
		if got, ok := Read(s); ok || got != (api.Epoch{}) {
			t.Errorf("Read(%q) = %v, %v", s, got, ok)
		}
		checkRead(t, s)
	}
}

func TestReadOfAllShortTexts(t *testing.T) {
	const letters = "0129.+- a"
	for length := range 7 {
		number := 1
		for range length {
			number *= len(letters)
		}
		s := make([]byte, length)
		for n := range number {
			left := n
			for i := range s {
				s[i] = letters[left%len(letters)]
				left /= len(letters)
			}
			checkRead(t, string(s))
		}
	}
}

func TestReadOfTextsThatAreNearlyOne(t *testing.T) {
	for _, e := range someEpochs() {
		s := Text(e)
		for place := range len(s) + 1 {
			for b := range 256 {
				one := string([]byte{byte(b)})
				checkRead(t, s[:place]+one+s[place:])
				if place < len(s) {
					checkRead(t, s[:place]+one+s[place+1:])
				}
			}
			if place < len(s) {
				checkRead(t, s[:place]+s[place+1:])
			}
			checkRead(t, s[place:])
			checkRead(t, s[:place])
		}
	}
}

func TestReadAtTheGreatestOfEachPart(t *testing.T) {
	for n := range 70000 {
		part := strconv.Itoa(n)
		checkRead(t, part+".0.0")
		checkRead(t, "0."+part+".0")
		checkRead(t, "0.0."+part)
	}
}

// TestEveryCallEnds hands in what lies at the ends of each kind (P0).
func TestEveryCallEnds(t *testing.T) {
	limits := []int{math.MinInt, -1 << 32, -65536, -1, 0, 1, 65534, 65535, 65536, 1 << 32, math.MaxInt}
	for _, a := range epochs() {
		for _, limit := range limits {
			if made, ok := Mint(a, a.Addr, a.Inc, limit); !ok && made != (api.Epoch{}) {
				t.Errorf("Mint(%v, .., %d) = %v", a, limit, made)
			}
		}
		for _, hop := range hops() {
			m := api.Mark{Epoch: a, Hop: hop}
			if Newer(m, m) {
				t.Errorf("%v is newer than itself", m)
			}
			Hop(m)
		}
	}
	for _, s := range []string{strings.Repeat(".", 1<<20), strings.Repeat("1", 1<<20), strings.Repeat("1.", 1<<20), strings.Repeat("\xff", 1<<20), "0.0." + strings.Repeat("0", 1<<20)} {
		if got, ok := Read(s); ok || got != (api.Epoch{}) {
			t.Errorf("Read of %d bytes: %v, %v", len(s), got, ok)
		}
	}
}
