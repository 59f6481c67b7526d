package store

import (
	"math"
	"strconv"
	"strings"
	"testing"

	"fugleman/api"
)

// look is all that the calls tell of a store.
type look struct {
	bytes string
	power bool
	armed bool
	left  int
	wrote int
}

func lookAt(t *testing.T, d *Store) look {
	t.Helper()
	bytes, ok := d.Read(0, d.Len())
	if !ok || len(bytes) != d.Len() {
		t.Fatalf("Read of all %d bytes: %q, %v", d.Len(), bytes, ok)
	}
	left, armed := d.Armed()
	return look{bytes: bytes, power: d.Power(), armed: armed, left: left, wrote: d.Wrote()}
}

func expect(t *testing.T, what string, d *Store, want look) {
	t.Helper()
	if got := lookAt(t, d); got != want {
		t.Errorf("%s: %+v, want %+v", what, got, want)
	}
}

func write(t *testing.T, d *Store, at int, s string, want api.Errno) {
	t.Helper()
	if e := d.Write(at, s); e != want {
		t.Errorf("Write(%d, %q) = %d, want %d", at, s, e, want)
	}
}

// plain goes by the words of the chapter, one byte at a time.
type plain struct {
	cells []byte
	power bool
	armed bool
	left  int
	wrote int
}

func newPlain(bytes string) *plain {
	return &plain{cells: []byte(bytes), power: true}
}

func (p *plain) look() look {
	return look{bytes: string(p.cells), power: p.power, armed: p.armed, left: p.left, wrote: p.wrote}
}

func (p *plain) there(at, n int) bool {
	for place := 0; place <= len(p.cells); place++ {
		for number := 0; place+number <= len(p.cells); number++ {
			if at == place && n == number {
				return true
			}
		}
	}
	return false
}

func (p *plain) read(at, n int) (string, bool) {
	if !p.there(at, n) {
		return "", false
	}
	text := ""
	for i := range n {
		text += string(p.cells[at+i : at+i+1])
	}
	return text, true
}

func (p *plain) write(at int, s string) api.Errno {
	if !p.there(at, len(s)) {
		return api.ErrArg
	}
	if !p.power {
		return api.ErrDown
	}
	for i := range len(s) {
		if p.armed && p.left == 0 {
			p.off()
			return api.ErrDown
		}
		p.cells[at+i] = s[i]
		p.wrote++
		if p.armed {
			p.left--
		}
	}
	return api.OK
}

func (p *plain) arm(n int) {
	p.armed, p.left = true, 0
	if n > 0 {
		p.left = n
	}
}

func (p *plain) off() {
	p.power, p.armed, p.left = false, false, 0
}

func (p *plain) on() {
	p.power = true
}

// farNumbers are far from all places of any store.
func farNumbers() []int {
	return []int{
		math.MinInt, math.MinInt + 1, math.MinInt + 3, -1 << 62, -1<<32 - 1, -1 << 32, -1<<32 + 2, -1 << 31, -65536, -256, -1001, -1000,
		65536, 1 << 31, 1<<31 - 1, 1<<32 - 1, 1 << 32, 1<<32 + 2, 1 << 62, math.MaxInt - 3, math.MaxInt - 2, math.MaxInt - 1, math.MaxInt,
	}
}

// numbersFor are the places of a store of size bytes, some beside them, and farNumbers.
func numbersFor(size int) []int {
	list := append(farNumbers(), -256, -3, -2, -1, 256, 999, 1000, 1001)
	for n := range size + 3 {
		list = append(list, n)
	}
	return list
}

// texts is one text of each length up to that.
func texts(longest int) []string {
	list := []string{}
	for n := range longest + 1 {
		list = append(list, "stuvwxyz"[:n])
	}
	return list
}

// setting is one way for a store to be, but for its bytes.
type setting struct {
	name string
	put  func(d *Store)
	same func(p *plain)
}

func settings() []setting {
	list := []setting{
		{"with power", func(d *Store) {}, func(p *plain) {}},
		{"without power", func(d *Store) { d.Off() }, func(p *plain) { p.off() }},
		{"power anew", func(d *Store) { d.Off(); d.On() }, func(p *plain) { p.off(); p.on() }},
	}
	for _, n := range []int{0, 1, 2, 3, 5, 6, 7, -1, math.MinInt, 1 << 32, math.MaxInt} {
		list = append(list,
			setting{"armed for " + strconv.Itoa(n), func(d *Store) { d.Arm(n) }, func(p *plain) { p.arm(n) }},
			setting{"without power, armed for " + strconv.Itoa(n), func(d *Store) { d.Off(); d.Arm(n) }, func(p *plain) { p.off(); p.arm(n) }},
		)
	}
	return list
}

func TestNew(t *testing.T) {
	for _, c := range []struct{ size, want int }{
		{math.MinInt, 0}, {math.MinInt + 1, 0}, {-1 << 32, 0}, {-1<<32 + 5, 0}, {-1001, 0}, {-1000, 0}, {-2, 0}, {-1, 0},
		{0, 0}, {1, 1}, {2, 2}, {3, 3}, {148, 148}, {255, 255}, {256, 256}, {257, 257}, {998, 998}, {999, 999}, {1000, 1000},
		{1001, 1000}, {1002, 1000}, {5000, 1000}, {65536, 1000}, {1 << 31, 1000}, {1<<32 + 5, 1000}, {math.MaxInt - 1, 1000}, {math.MaxInt, 1000},
	} {
		d := New(c.size)
		if n := d.Len(); n != c.want {
			t.Errorf("New(%d).Len() = %d, want %d", c.size, n, c.want)
		}
		expect(t, "a new store", d, look{bytes: strings.Repeat("\x00", c.want), power: true})
	}
}

func TestNewOfAllSizes(t *testing.T) {
	for size := range 1100 {
		d := New(size)
		want := size
		if size > 1000 {
			want = 1000
		}
		if n := d.Len(); n != want {
			t.Fatalf("New(%d).Len() = %d", size, n)
		}
		write(t, d, want, "", api.OK)
		write(t, d, want, "x", api.ErrArg)
		if want > 0 {
			write(t, d, want-1, "x", api.OK)
		}
	}
}

// longText is n bytes that don't come again after 256, so that a byte that is missing is seen.
func longText(n int) string {
	bytes := make([]byte, n)
	for i := range bytes {
		bytes[i] = byte(i*7 + i/251)
	}
	return string(bytes)
}

func TestOf(t *testing.T) {
	for _, n := range []int{0, 1, 2, 3, 64, 148, 255, 256, 257, 998, 999, 1000, 1001, 1002, 1999, 2000, 2001, 70000} {
		s := longText(n)
		want := s
		if n > 1000 {
			want = s[:1000]
		}
		d := Of(s)
		if got := d.Len(); got != len(want) {
			t.Errorf("Of %d bytes: Len %d", n, got)
		}
		expect(t, "Of", d, look{bytes: want, power: true})
	}
	for _, s := range []string{"", "\x00", "\x00\x00", "a\x00b", "\xff", "\xff\xc3\x28\x80", "äöü", "\n\r\t"} {
		d := Of(s)
		if got := d.Len(); got != len(s) {
			t.Errorf("Of(%q).Len() = %d", s, got)
		}
		expect(t, "Of", d, look{bytes: s, power: true})
	}
}

// TestAStoreOfAText is written to as a new one is: its bytes were not written to it.
func TestAStoreOfAText(t *testing.T) {
	d := Of("abcdef")
	write(t, d, 2, "xy", api.OK)
	expect(t, "Of, Write", d, look{bytes: "abxyef", power: true, wrote: 2})
	write(t, d, 5, "zz", api.ErrArg)
	d.Arm(1)
	write(t, d, 0, "uv", api.ErrDown)
	expect(t, "Of, armed", d, look{bytes: "ubxyef", wrote: 3})
}

func TestRead(t *testing.T) {
	const big = math.MaxInt
	for _, c := range []struct {
		at, n int
		want  string
		ok    bool
	}{
		{0, 0, "", true}, {0, 1, "a", true}, {0, 2, "ab", true}, {0, 5, "abcde", true}, {0, 6, "abcdef", true}, {0, 7, "", false},
		{1, 0, "", true}, {1, 2, "bc", true}, {1, 5, "bcdef", true}, {1, 6, "", false}, {3, 1, "d", true}, {3, 3, "def", true}, {3, 4, "", false},
		{5, 0, "", true}, {5, 1, "f", true}, {5, 2, "", false}, {6, 0, "", true}, {6, 1, "", false}, {6, -1, "", false},
		{7, 0, "", false}, {7, 1, "", false}, {7, -1, "", false}, {8, -2, "", false}, {-1, 0, "", false}, {-1, 1, "", false}, {-1, 2, "", false}, {-1, 7, "", false},
		{0, -1, "", false}, {1, -1, "", false}, {5, -5, "", false}, {6, -6, "", false}, {-6, 6, "", false}, {-5, 6, "", false},
		{0, big, "", false}, {1, big, "", false}, {6, big, "", false}, {big, 0, "", false}, {big, 1, "", false}, {big, big, "", false},
		{big - 1, 2, "", false}, {2, big - 1, "", false}, {big, math.MinInt, "", false}, {math.MinInt, big, "", false}, {math.MinInt, math.MinInt, "", false},
		{math.MinInt, 0, "", false}, {0, math.MinInt, "", false}, {6, math.MinInt, "", false}, {-1, big, "", false}, {big, -1, "", false},
		{1 << 62, 1 << 62, "", false}, {1 << 32, 1, "", false}, {1, 1 << 32, "", false}, {1 << 32, 1 << 32, "", false}, {1000, 1, "", false}, {1, 1000, "", false},
	} {
		for _, s := range settings() {
			d := Of("abcdef")
			s.put(d)
			if got, ok := d.Read(c.at, c.n); got != c.want || ok != c.ok {
				t.Errorf("%s: Read(%d, %d) = %q, %v, want %q, %v", s.name, c.at, c.n, got, ok, c.want, c.ok)
			}
		}
	}
}

func TestReadAtAllPlaces(t *testing.T) {
	for _, bytes := range []string{"", "a", "ab", "abcdef"} {
		for _, s := range settings() {
			d, p := Of(bytes), newPlain(bytes)
			s.put(d)
			s.same(p)
			for _, at := range numbersFor(len(bytes)) {
				for _, n := range numbersFor(len(bytes)) {
					want, wantOK := p.read(at, n)
					if got, ok := d.Read(at, n); got != want || ok != wantOK {
						t.Fatalf("%s, of %q: Read(%d, %d) = %q, %v", s.name, bytes, at, n, got, ok)
					}
				}
			}
			expect(t, "Read changes nothing: "+s.name, d, p.look())
		}
	}
}

func TestReadOfAGreatStore(t *testing.T) {
	s := longText(1000)
	d := Of(s)
	for _, c := range []struct {
		at, n int
		ok    bool
	}{
		{0, 999, true}, {0, 1000, true}, {0, 1001, false}, {1, 999, true}, {1, 1000, false}, {255, 2, true}, {256, 256, true}, {500, 500, true}, {500, 501, false},
		{999, 0, true}, {999, 1, true}, {999, 2, false}, {1000, 0, true}, {1000, 1, false}, {1001, 0, false},
	} {
		want := ""
		if c.ok {
			want = s[c.at : c.at+c.n]
		}
		if got, ok := d.Read(c.at, c.n); got != want || ok != c.ok {
			t.Errorf("Read(%d, %d) = %d bytes, %v", c.at, c.n, len(got), ok)
		}
	}
}

func TestWrite(t *testing.T) {
	for _, c := range []struct {
		at   int
		s    string
		e    api.Errno
		want string
	}{
		{0, "", api.OK, "abcdef"}, {0, "x", api.OK, "xbcdef"}, {0, "xyz", api.OK, "xyzdef"}, {0, "uvwxy", api.OK, "uvwxyf"}, {0, "uvwxyz", api.OK, "uvwxyz"},
		{0, "tuvwxyz", api.ErrArg, "abcdef"}, {1, "xy", api.OK, "axydef"}, {1, "vwxyz", api.OK, "avwxyz"}, {1, "uvwxyz", api.ErrArg, "abcdef"},
		{3, "\x00\xff", api.OK, "abc\x00\xfff"}, {4, "yz", api.OK, "abcdyz"}, {4, "xyz", api.ErrArg, "abcdef"},
		{5, "", api.OK, "abcdef"}, {5, "z", api.OK, "abcdez"}, {5, "yz", api.ErrArg, "abcdef"}, {6, "", api.OK, "abcdef"}, {6, "z", api.ErrArg, "abcdef"},
		{7, "", api.ErrArg, "abcdef"}, {7, "z", api.ErrArg, "abcdef"}, {-1, "", api.ErrArg, "abcdef"}, {-1, "z", api.ErrArg, "abcdef"}, {-1, "yz", api.ErrArg, "abcdef"},
		{-6, "uvwxyz", api.ErrArg, "abcdef"}, {-256, "z", api.ErrArg, "abcdef"}, {256, "z", api.ErrArg, "abcdef"}, {1 << 32, "z", api.ErrArg, "abcdef"},
		{-1 << 32, "z", api.ErrArg, "abcdef"}, {1 << 62, "z", api.ErrArg, "abcdef"}, {math.MaxInt, "", api.ErrArg, "abcdef"}, {math.MaxInt, "z", api.ErrArg, "abcdef"},
		{math.MaxInt - 1, "yz", api.ErrArg, "abcdef"}, {math.MinInt, "", api.ErrArg, "abcdef"}, {math.MinInt, "z", api.ErrArg, "abcdef"},
	} {
		d := Of("abcdef")
		write(t, d, c.at, c.s, c.e)
		wrote := 0
		if c.e == api.OK {
			wrote = len(c.s)
		}
		expect(t, "Write", d, look{bytes: c.want, power: true, wrote: wrote})
	}
}

// TestTheFirstErrorOfAWrite holds R1: a place that isn't there stands ahead of power that isn't, and of one that is torn.
func TestTheFirstErrorOfAWrite(t *testing.T) {
	for _, c := range []struct {
		at   int
		s    string
		want api.Errno
	}{
		{-1, "", api.ErrArg}, {-1, "x", api.ErrArg}, {math.MinInt, "x", api.ErrArg}, {7, "", api.ErrArg}, {7, "x", api.ErrArg}, {math.MaxInt, "x", api.ErrArg},
		{6, "x", api.ErrArg}, {0, "tuvwxyz", api.ErrArg}, {5, "xy", api.ErrArg},
		{0, "", api.ErrDown}, {6, "", api.ErrDown}, {0, "x", api.ErrDown}, {5, "x", api.ErrDown}, {0, "uvwxyz", api.ErrDown},
	} {
		d := Of("abcdef")
		d.Off()
		write(t, d, c.at, c.s, c.want)
		expect(t, "without power", d, look{bytes: "abcdef"})
		d.Arm(2)
		write(t, d, c.at, c.s, c.want)
		expect(t, "without power, armed", d, look{bytes: "abcdef", armed: true, left: 2})
		if c.want != api.ErrArg {
			continue
		}
		d.On()
		for _, n := range []int{0, 1, 2, 100} {
			d.Arm(n)
			write(t, d, c.at, c.s, c.want)
			expect(t, "armed", d, look{bytes: "abcdef", power: true, armed: true, left: n})
		}
	}
}

func TestWriteAtAllPlaces(t *testing.T) {
	for _, bytes := range []string{"", "a", "ab", "abcdef"} {
		for _, s := range settings() {
			for _, at := range numbersFor(len(bytes)) {
				for _, text := range append(texts(8), longText(999), longText(1000), longText(1001)) {
					d, p := Of(bytes), newPlain(bytes)
					s.put(d)
					s.same(p)
					write(t, d, at, text, p.write(at, text))
					expect(t, s.name, d, p.look())
				}
			}
		}
	}
}

func TestWriteToAGreatStore(t *testing.T) {
	whole := longText(1000)
	d := New(1000)
	write(t, d, 0, whole+"x", api.ErrArg)
	write(t, d, 1, whole, api.ErrArg)
	write(t, d, 1000, "x", api.ErrArg)
	write(t, d, 1000, "", api.OK)
	expect(t, "refused", d, look{bytes: strings.Repeat("\x00", 1000), power: true})
	write(t, d, 0, whole, api.OK)
	expect(t, "whole", d, look{bytes: whole, power: true, wrote: 1000})
	write(t, d, 999, "x", api.OK)
	d.Arm(700)
	write(t, d, 0, strings.Repeat("y", 999), api.ErrDown)
	expect(t, "torn", d, look{bytes: strings.Repeat("y", 700) + whole[700:999] + "x", wrote: 1701})
}

// TestWriteOfNothing holds that no byte more takes no power from a store that is armed for none.
func TestWriteOfNothing(t *testing.T) {
	d := Of("ab")
	for _, at := range []int{0, 1, 2} {
		write(t, d, at, "", api.OK)
	}
	expect(t, "with power", d, look{bytes: "ab", power: true})
	d.Arm(0)
	for _, at := range []int{0, 1, 2} {
		write(t, d, at, "", api.OK)
	}
	expect(t, "armed for none", d, look{bytes: "ab", power: true, armed: true})
	d.Arm(1)
	write(t, d, 0, "", api.OK)
	expect(t, "armed for one", d, look{bytes: "ab", power: true, armed: true, left: 1})
	d.Off()
	for _, at := range []int{0, 1, 2} {
		write(t, d, at, "", api.ErrDown)
	}
	expect(t, "without power", d, look{bytes: "ab"})
	write(t, d, 3, "", api.ErrArg)
	write(t, d, -1, "", api.ErrArg)
}

func TestTheExample(t *testing.T) {
	d := New(3)
	d.Arm(1)
	write(t, d, 0, "ab", api.ErrDown)
	if got, ok := d.Read(0, 2); got != "a\x00" || !ok {
		t.Errorf("Read(0, 2) = %q, %v", got, ok)
	}
}

func TestArm(t *testing.T) {
	for _, c := range []struct{ n, want int }{
		{0, 0}, {1, 1}, {2, 2}, {3, 3}, {75, 75}, {255, 255}, {256, 256}, {1000, 1000}, {1001, 1001}, {65536, 65536},
		{1<<31 - 1, 1<<31 - 1}, {1 << 31, 1 << 31}, {1 << 32, 1 << 32}, {math.MaxInt - 1, math.MaxInt - 1}, {math.MaxInt, math.MaxInt},
		{-1, 0}, {-2, 0}, {-7, 0}, {-256, 0}, {-1001, 0}, {-1 << 31, 0}, {-1 << 32, 0}, {-1<<32 + 3, 0}, {math.MinInt + 1, 0}, {math.MinInt, 0},
	} {
		d := Of("abc")
		d.Arm(c.n)
		expect(t, "armed", d, look{bytes: "abc", power: true, armed: true, left: c.want})
		d.Off()
		d.Arm(c.n)
		expect(t, "armed without power", d, look{bytes: "abc", armed: true, left: c.want})
		d.On()
		expect(t, "armed, with power behind it", d, look{bytes: "abc", power: true, armed: true, left: c.want})
	}
}

func TestArmAnew(t *testing.T) {
	d := Of("abcdef")
	for _, n := range []int{3, 5, 1, 0, 4, -1, math.MaxInt, 2, 2} {
		d.Arm(n)
		expect(t, "armed anew", d, look{bytes: "abcdef", power: true, armed: true, left: max(n, 0)})
	}
	write(t, d, 0, "x", api.OK)
	expect(t, "one byte fewer", d, look{bytes: "xbcdef", power: true, armed: true, left: 1, wrote: 1})
	d.Arm(2)
	write(t, d, 1, "yz", api.OK)
	expect(t, "armed anew behind a write", d, look{bytes: "xyzdef", power: true, armed: true, wrote: 3})
	d.Arm(1)
	write(t, d, 3, "uvw", api.ErrDown)
	expect(t, "armed anew at none", d, look{bytes: "xyzuef", wrote: 4})
	d.Arm(0)
	d.Arm(2)
	d.On()
	write(t, d, 0, "abc", api.ErrDown)
	expect(t, "armed anew without power", d, look{bytes: "abzuef", wrote: 6})
}

// TestArmedForEachNumber arms for fewer bytes than are written, for as many, and for more.
func TestArmedForEachNumber(t *testing.T) {
	for n := range 9 {
		for _, s := range texts(6) {
			d := Of("abcdef")
			d.Arm(n)
			want, e := look{bytes: s + "abcdef"[len(s):], power: true, armed: true, left: n - len(s), wrote: len(s)}, api.OK
			if n < len(s) {
				want, e = look{bytes: s[:n] + "abcdef"[n:], wrote: n}, api.ErrDown
			}
			write(t, d, 0, s, e)
			expect(t, "armed", d, want)
		}
	}
}

// TestArmedForAVeryGreatNumber counts down from there.
func TestArmedForAVeryGreatNumber(t *testing.T) {
	d := New(4)
	d.Arm(math.MaxInt)
	write(t, d, 0, "abc", api.OK)
	expect(t, "armed", d, look{bytes: "abc\x00", power: true, armed: true, left: math.MaxInt - 3, wrote: 3})
	write(t, d, 0, "abcde", api.ErrArg)
	write(t, d, 3, "d", api.OK)
	expect(t, "armed", d, look{bytes: "abcd", power: true, armed: true, left: math.MaxInt - 4, wrote: 4})
}

// TestArmedIsUsedUp goes through several Writes: power is lost with the byte behind the last one, not with the last one.
func TestArmedIsUsedUp(t *testing.T) {
	d := New(5)
	d.Arm(3)
	write(t, d, 0, "a", api.OK)
	write(t, d, 1, "", api.OK)
	write(t, d, 9, "x", api.ErrArg)
	expect(t, "two left", d, look{bytes: "a\x00\x00\x00\x00", power: true, armed: true, left: 2, wrote: 1})
	write(t, d, 1, "bc", api.OK)
	expect(t, "none left", d, look{bytes: "abc\x00\x00", power: true, armed: true, wrote: 3})
	write(t, d, 3, "", api.OK)
	expect(t, "none left, nothing written", d, look{bytes: "abc\x00\x00", power: true, armed: true, wrote: 3})
	write(t, d, 3, "d", api.ErrDown)
	expect(t, "power is lost", d, look{bytes: "abc\x00\x00", wrote: 3})
	d.On()
	write(t, d, 3, "de", api.OK)
	expect(t, "power anew", d, look{bytes: "abcde", power: true, wrote: 5})
}

func TestArmedBehindOffAndOn(t *testing.T) {
	d := Of("abcdef")
	d.Arm(4)
	d.On()
	expect(t, "On with power", d, look{bytes: "abcdef", power: true, armed: true, left: 4})
	write(t, d, 0, "x", api.OK)
	d.Off()
	expect(t, "Off", d, look{bytes: "xbcdef", wrote: 1})
	d.Off()
	expect(t, "Off twice", d, look{bytes: "xbcdef", wrote: 1})
	d.On()
	expect(t, "On", d, look{bytes: "xbcdef", power: true, wrote: 1})
	d.On()
	write(t, d, 0, "uvwxyz", api.OK)
	expect(t, "not armed any more", d, look{bytes: "uvwxyz", power: true, wrote: 7})
	d.Off()
	d.Arm(3)
	write(t, d, 0, "ab", api.ErrDown)
	expect(t, "armed without power", d, look{bytes: "uvwxyz", armed: true, left: 3, wrote: 7})
	d.On()
	write(t, d, 0, "ab", api.OK)
	expect(t, "armed without power, then On", d, look{bytes: "abwxyz", power: true, armed: true, left: 1, wrote: 9})
	d.Off()
	d.Arm(3)
	d.Off()
	expect(t, "armed without power, then Off", d, look{bytes: "abwxyz", wrote: 9})
	d.On()
	write(t, d, 0, "cdefgh", api.OK)
	expect(t, "armed no more", d, look{bytes: "cdefgh", power: true, wrote: 15})
}

// TestATornWriteLeavesItUnarmed tells that what comes behind power anew is whole.
func TestATornWriteLeavesItUnarmed(t *testing.T) {
	for n := range 5 {
		d := New(5)
		d.Arm(n)
		write(t, d, 0, "vwxyz", api.ErrDown)
		if left, ok := d.Armed(); left != 0 || ok || d.Power() {
			t.Errorf("armed for %d, torn: Armed %d, %v, Power %v", n, left, ok, d.Power())
		}
		write(t, d, 0, "vwxyz", api.ErrDown)
		d.On()
		if left, ok := d.Armed(); left != 0 || ok || !d.Power() {
			t.Errorf("armed for %d, torn, On: Armed %d, %v, Power %v", n, left, ok, d.Power())
		}
		write(t, d, 0, "abcde", api.OK)
		expect(t, "behind it", d, look{bytes: "abcde", power: true, wrote: n + 5})
	}
}

func TestPower(t *testing.T) {
	d := New(1)
	for i, c := range []struct {
		done func()
		want bool
	}{
		{func() {}, true}, {d.On, true}, {d.Off, false}, {d.Off, false}, {d.On, true}, {d.On, true}, {d.Off, false},
		{func() { d.Arm(5) }, false}, {func() { d.Write(0, "x") }, false}, {d.On, true}, {func() { d.Write(0, "x") }, true}, {func() { d.Arm(0) }, true},
		{func() { d.Write(0, "") }, true}, {func() { d.Write(1, "x") }, true}, {func() { d.Write(0, "x") }, false}, {d.On, true},
	} {
		c.done()
		if got := d.Power(); got != c.want {
			t.Errorf("step %d: Power %v", i, got)
		}
	}
}

func TestWrote(t *testing.T) {
	d := New(4)
	for i, c := range []struct {
		done func()
		want int
	}{
		{func() {}, 0}, {func() { d.Read(0, 4) }, 0}, {func() { d.Write(0, "") }, 0}, {func() { d.Write(0, "a") }, 1}, {func() { d.Write(0, "a") }, 2},
		{func() { d.Write(0, "abcd") }, 6}, {func() { d.Write(1, "abcd") }, 6}, {func() { d.Write(-1, "a") }, 6}, {func() { d.Write(0, "\x00\x00") }, 8},
		{func() { d.Arm(3) }, 8}, {func() { d.Write(2, "xy") }, 10}, {func() { d.Write(0, "xyz") }, 11}, {func() { d.Write(0, "xyz") }, 11},
		{d.On, 11}, {func() { d.Arm(0) }, 11}, {func() { d.Write(0, "xyz") }, 11}, {d.On, 11}, {func() { d.Write(0, "xyz") }, 14}, {d.Off, 14},
	} {
		c.done()
		if got := d.Wrote(); got != c.want {
			t.Errorf("step %d: Wrote %d, want %d", i, got, c.want)
		}
	}
}

// TestNothingThere holds R2: whatever is called of a nil *Store, in whatever order, nothing changes.
func TestNothingThere(t *testing.T) {
	var d *Store
	for range 2 {
		for _, at := range numbersFor(3) {
			d.Arm(at)
			if n, ok := d.Armed(); n != 0 || ok {
				t.Errorf("Armed: %d, %v", n, ok)
			}
			for _, n := range numbersFor(3) {
				if s, ok := d.Read(at, n); s != "" || ok {
					t.Errorf("Read(%d, %d) = %q, %v", at, n, s, ok)
				}
			}
			for _, s := range append(texts(3), longText(1001)) {
				write(t, d, at, s, api.ErrDown)
			}
			if d.Len() != 0 || d.Wrote() != 0 || d.Power() {
				t.Errorf("Len %d, Wrote %d, Power %v", d.Len(), d.Wrote(), d.Power())
			}
		}
		d.On()
		if d.Power() {
			t.Error("On: it has power")
		}
		write(t, d, 0, "", api.ErrDown)
		d.Off()
		if d != nil || d.Power() {
			t.Error("Off")
		}
	}
	expect(t, "a store beside it", New(2), look{bytes: "\x00\x00", power: true})
}

// TestATornWriteHasWrittenItsFirstBytes holds P6.2: at each number of bytes, at each place, those beside it stay.
func TestATornWriteHasWrittenItsFirstBytes(t *testing.T) {
	const first = "abcdefgh"
	for at := range len(first) + 1 {
		for n := range len(first) - at + 1 {
			for armed := range n {
				d := Of(first)
				d.Arm(armed)
				write(t, d, at, "STUVWXYZ"[:n], api.ErrDown)
				want := first[:at] + "STUVWXYZ"[:armed] + first[at+armed:]
				expect(t, "torn", d, look{bytes: want, wrote: armed})
				d.On()
				write(t, d, at, "stuvwxyz"[:n], api.OK)
				want = first[:at] + "stuvwxyz"[:n] + first[at+n:]
				expect(t, "written anew", d, look{bytes: want, power: true, wrote: armed + n})
			}
		}
	}
}

// TestWritesOverOneAnother holds P6.2: each place tells what was written there last.
func TestWritesOverOneAnother(t *testing.T) {
	d := New(8)
	for _, c := range []struct {
		at      int
		s, want string
	}{
		{0, "aaaa", "aaaa...."}, {4, "bbbb", "aaaabbbb"}, {2, "cccc", "aaccccbb"}, {3, "dd", "aacddcbb"}, {3, "dd", "aacddcbb"}, {1, "e", "aecddcbb"},
		{0, "ff", "ffcddcbb"}, {6, "gg", "ffcddcgg"}, {5, "hhh", "ffcddhhh"}, {0, "ijklmnop", "ijklmnop"}, {0, "", "ijklmnop"}, {7, "q", "ijklmnoq"}, {0, "r", "rjklmnoq"},
	} {
		write(t, d, c.at, c.s, api.OK)
		want := strings.ReplaceAll(c.want, ".", "\x00")
		for at := range 9 {
			for n := range 9 - at {
				if got, ok := d.Read(at, n); got != want[at:at+n] || !ok {
					t.Errorf("behind Write(%d, %q): Read(%d, %d) = %q, %v", c.at, c.s, at, n, got, ok)
				}
			}
		}
	}
}

// pick tells numbers from a short rule, so that a run can be had once more.
type pick uint32

func (k *pick) below(n int) int {
	*k = *k*1664525 + 1013904223
	return int(*k>>8) % n
}

func (k *pick) text(longest int) string {
	bytes := make([]byte, k.below(longest+1))
	for i := range bytes {
		bytes[i] = byte(k.below(256))
	}
	return string(bytes)
}

// act does one thing with both, and holds what they answer against one another.
func (k *pick) act(t *testing.T, d *Store, p *plain) {
	t.Helper()
	switch k.below(12) {
	case 0:
		d.Off()
		p.off()
	case 1, 2:
		d.On()
		p.on()
	case 3:
		n := k.below(60) - 5
		d.Arm(n)
		p.arm(n)
	case 4, 5:
		at, n := k.below(50)-5, k.below(50)-5
		want, wantOK := p.read(at, n)
		if got, ok := d.Read(at, n); got != want || ok != wantOK {
			t.Fatalf("Read(%d, %d) = %q, %v, want %q, %v", at, n, got, ok, want, wantOK)
		}
	default:
		at, s := k.below(44)-2, k.text(20)
		write(t, d, at, s, p.write(at, s))
	}
}

func TestLongRunsOfCalls(t *testing.T) {
	for run := range 60 {
		k := pick(run)
		size := k.below(41)
		d, p := New(size), newPlain(strings.Repeat("\x00", size))
		for range 400 {
			k.act(t, d, p)
			if got, want := lookAt(t, d), p.look(); got != want {
				t.Fatalf("run %d: %+v, want %+v", run, got, want)
			}
		}
	}
}

// deed is one call of a store and of its plain twin.
type deed struct {
	name string
	done func(d *Store) api.Errno
	same func(p *plain) api.Errno
}

func deeds() []deed {
	list := []deed{
		{"Off", func(d *Store) api.Errno { d.Off(); return api.OK }, func(p *plain) api.Errno { p.off(); return api.OK }},
		{"On", func(d *Store) api.Errno { d.On(); return api.OK }, func(p *plain) api.Errno { p.on(); return api.OK }},
	}
	for _, n := range []int{-1, 0, 1, 2, 3} {
		list = append(list, deed{"Arm", func(d *Store) api.Errno { d.Arm(n); return api.OK }, func(p *plain) api.Errno { p.arm(n); return api.OK }})
	}
	for _, at := range []int{-1, 0, 1, 2, 3} {
		for _, s := range []string{"", "x", "yz"} {
			list = append(list, deed{"Write", func(d *Store) api.Errno { return d.Write(at, s) }, func(p *plain) api.Errno { return p.write(at, s) }})
		}
	}
	return list
}

// TestAllShortRunsOfCalls does all deeds behind all others behind all others.
func TestAllShortRunsOfCalls(t *testing.T) {
	list := deeds()
	for first := range list {
		for second := range list {
			for third := range list {
				d, p := Of("ab"), newPlain("ab")
				for _, i := range []int{first, second, third} {
					if got, want := list[i].done(d), list[i].same(p); got != want {
						t.Fatalf("%s, %s, %s: %d, want %d", list[first].name, list[second].name, list[third].name, got, want)
					}
				}
				expect(t, list[first].name+", "+list[second].name+", "+list[third].name, d, p.look())
			}
		}
	}
}

// TestMemoryIsItsOwn holds R4: stores share nothing with one another, with what was handed in, or with what was answered.
func TestMemoryIsItsOwn(t *testing.T) {
	bytes := []byte("abcdef")
	handed := string(bytes)
	first, second := Of(handed), Of(handed)
	before, _ := first.Read(0, 6)
	part, _ := first.Read(2, 3)
	written := "XYZ"
	write(t, first, 2, written, api.OK)
	write(t, first, 2, "123", api.OK)
	bytes[0] = '!'
	if handed != "abcdef" || written != "XYZ" || before != "abcdef" || part != "cde" {
		t.Errorf("handed in %q and %q, read %q and %q", handed, written, before, part)
	}
	expect(t, "written to", first, look{bytes: "ab123f", power: true, wrote: 6})
	expect(t, "the other one", second, look{bytes: "abcdef", power: true})
	third, fourth := New(3), New(3)
	write(t, third, 0, "uvw", api.OK)
	third.Arm(2)
	third.Off()
	expect(t, "another new one", fourth, look{bytes: "\x00\x00\x00", power: true})
	expect(t, "one new behind it", New(3), look{bytes: "\x00\x00\x00", power: true})
}

// TestWhatWasReadStays holds P6.2: whatever is written later, what was read once is the same.
func TestWhatWasReadStays(t *testing.T) {
	k := pick(7)
	d := New(30)
	type reading struct{ got, copied string }
	readings := []reading{}
	for range 300 {
		at := k.below(31)
		d.Write(at, k.text(30-at))
		got, _ := d.Read(at, k.below(31-at))
		readings = append(readings, reading{got, strings.Clone(got)})
	}
	for i, r := range readings {
		if r.got != r.copied {
			t.Fatalf("reading %d: %q, it was %q", i, r.got, r.copied)
		}
	}
}

// TestEveryCallEnds holds P0 and R7: every call, at all chosen arguments, answers, and the same of two stores with which the same was done.
func TestEveryCallEnds(t *testing.T) {
	for _, size := range append(farNumbers(), -1, 0, 1, 6, 999, 1000, 1001) {
		first, second := New(size), New(size)
		for _, at := range numbersFor(6) {
			for _, n := range numbersFor(6) {
				first.Arm(n)
				second.Arm(n)
				one, oneOK := first.Read(at, n)
				two, twoOK := second.Read(at, n)
				if one != two || oneOK != twoOK || first.Write(at, "xyz") != second.Write(at, "xyz") {
					t.Fatalf("New(%d): two answers at %d, %d", size, at, n)
				}
				if first.Len() != second.Len() || first.Power() != second.Power() || first.Wrote() != second.Wrote() {
					t.Fatalf("New(%d): two stores at %d, %d", size, at, n)
				}
				first.On()
				second.On()
			}
		}
	}
}
