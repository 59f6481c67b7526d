package octets

import (
	"math"
	"slices"
	"strconv"
	"strings"
	"testing"
)

// thing is something that a pen writes by one call and an eye reads by one call.
type thing struct {
	name  string
	bytes string
	write func(p *Pen) bool
	read  func(e *Eye) bool
}

func byteThing(n uint8) thing {
	return thing{"Byte", string([]byte{n}),
		func(p *Pen) bool { return p.Byte(n) == p },
		func(e *Eye) bool { return e.Byte() == n }}
}

func twoThing(n uint16) thing {
	return thing{"Two", string([]byte{byte(n / 256), byte(n % 256)}),
		func(p *Pen) bool { return p.Two(n) == p },
		func(e *Eye) bool { return e.Two() == n }}
}

func fourThing(n uint32) thing {
	bytes := make([]byte, 4)
	for i, left := 3, n; i >= 0; i-- {
		bytes[i] = byte(left % 256)
		left /= 256
	}
	return thing{"Four", string(bytes),
		func(p *Pen) bool { return p.Four(n) == p },
		func(e *Eye) bool { return e.Four() == n }}
}

func textThing(s string) thing {
	return thing{"Text", s,
		func(p *Pen) bool { return p.Text(s) == p },
		func(e *Eye) bool { return e.Take(len(s)) == s }}
}

func smallThing(s string) thing {
	return thing{"Small", string([]byte{byte(len(s))}) + s,
		func(p *Pen) bool { return p.Small(s) },
		func(e *Eye) bool { return e.Small() == s }}
}

// everyByte is a text of all bytes but the last: the longest that is Small.
func everyByte() string {
	all := make([]byte, 255)
	for i := range all {
		all[i] = byte(i)
	}
	return string(all)
}

func things() []thing {
	all := []thing{}
	for _, n := range []uint8{0, 1, 127, 128, 255} {
		all = append(all, byteThing(n))
	}
	for _, n := range []uint16{0, 1, 255, 256, 258, 0x7FFF, 0x8000, 0xFF00, 0xFFFF} {
		all = append(all, twoThing(n))
	}
	for _, n := range []uint32{0, 1, 255, 256, 0xFFFF, 0x10000, 0xFFFFFF, 0x1000000, 0x01020304, 0x7FFFFFFF, 0x80000000, 0xFF000000, 0xFFFFFFFF} {
		all = append(all, fourThing(n))
	}
	for _, s := range []string{"", "\x00", "a", "\xff\xc3\x28", everyByte()} {
		all = append(all, textThing(s), smallThing(s))
	}
	return append(all, textThing(strings.Repeat("long", 1000)))
}

func TestPenWritesTheHighestByteFirst(t *testing.T) {
	for _, one := range things() {
		p := NewPen()
		if !one.write(p) {
			t.Errorf("%s of %q: not answered so", one.name, one.bytes)
		}
		if p.String() != one.bytes || p.Len() != len(one.bytes) {
			t.Errorf("%s: %q, %d, want %q", one.name, p.String(), p.Len(), one.bytes)
		}
	}
	known := NewPen().Byte(0).Byte(255).Two(258).Two(0xFFFE).Four(0x01020304).Four(0xFFFEFDFC).Text("ab").Text("")
	if got, want := known.String(), "\x00\xff\x01\x02\xff\xfe\x01\x02\x03\x04\xff\xfe\xfd\xfcab"; got != want || known.Len() != 16 {
		t.Errorf("%q, %d, want %q", got, known.Len(), want)
	}
}

func TestNewPenHasNothing(t *testing.T) {
	p := NewPen()
	if p == nil || p.Len() != 0 || p.String() != "" {
		t.Fatalf("%v", p)
	}
	p.Byte(1)
	if other := NewPen(); other == p || other.Len() != 0 || other.String() != "" {
		t.Errorf("another one has written %q", other.String())
	}
}

func TestPenAnswersItself(t *testing.T) {
	p := NewPen()
	if p.Byte(1) != p || p.Two(2) != p || p.Four(3) != p || p.Text("a") != p || p.Text("") != p {
		t.Error("another pen")
	}
}

func TestWhatAPenToldStays(t *testing.T) {
	p := NewPen().Text("ab")
	first := p.String()
	if again := p.String(); again != first || p.Len() != 2 {
		t.Errorf("told twice: %q", again)
	}
	p.Byte('c')
	second := p.String()
	p.Two(0x6465)
	if first != "ab" || second != "abc" || p.String() != "abcde" {
		t.Errorf("%q, %q, %q", first, second, p.String())
	}
}

func TestPenSmallAtItsLengths(t *testing.T) {
	for _, n := range []int{0, 1, 2, 127, 128, 254, 255} {
		s := strings.Repeat("y", n)
		p := NewPen().Byte(7)
		if !p.Small(s) {
			t.Errorf("%d bytes: refused", n)
		}
		if want := "\x07" + string([]byte{byte(n)}) + s; p.String() != want || p.Len() != n+2 {
			t.Errorf("%d bytes: %q", n, p.String())
		}
	}
	for _, n := range []int{256, 257, 511, 512, 65535, 65536, 1 << 20} {
		s := strings.Repeat("y", n)
		p := NewPen()
		if p.Small(s) || p.Len() != 0 || p.String() != "" {
			t.Errorf("%d bytes, first: %d written", n, p.Len())
		}
		p.Text("ab")
		if p.Small(s) || p.Len() != 2 || p.String() != "ab" {
			t.Errorf("%d bytes: %d written", n, p.Len())
		}
		if !p.Small("c") || p.String() != "ab\x01c" {
			t.Errorf("behind %d bytes: %q", n, p.String())
		}
	}
}

func TestEyeReadsTheHighestByteFirst(t *testing.T) {
	e := NewEye("\x01\x02\x03\x04\x05\x06\x07\xff\xff\xff\xff\xff\xff\xff")
	if got := e.Byte(); got != 1 {
		t.Errorf("Byte = %d", got)
	}
	if got := e.Two(); got != 0x0203 {
		t.Errorf("Two = %04X", got)
	}
	if got := e.Four(); got != 0x04050607 {
		t.Errorf("Four = %08X", got)
	}
	if e.Left() != 7 || e.Done() || e.Blind() {
		t.Errorf("halfway: %d left", e.Left())
	}
	if b, two, four := e.Byte(), e.Two(), e.Four(); b != 0xFF || two != 0xFFFF || four != 0xFFFFFFFF {
		t.Errorf("the greatest: %02X, %04X, %08X", b, two, four)
	}
	if e.Left() != 0 || !e.Done() || e.Blind() {
		t.Errorf("at the end: %d left", e.Left())
	}
}

func TestEyeReadsEachThing(t *testing.T) {
	for _, one := range things() {
		for _, behind := range []string{"", "\x00", "more of it"} {
			e := NewEye(one.bytes + behind)
			if e.Left() != len(one.bytes)+len(behind) {
				t.Errorf("%s: %d left at first", one.name, e.Left())
			}
			if !one.read(e) || e.Left() != len(behind) || e.Blind() || e.Done() != (behind == "") {
				t.Errorf("%s of %q, ahead of %q: %d left", one.name, one.bytes, behind, e.Left())
			}
			if got := e.Take(len(behind)); got != behind || !e.Done() {
				t.Errorf("%s: %q is behind it, want %q", one.name, got, behind)
			}
		}
	}
}

func TestEyeAtTheBeginning(t *testing.T) {
	if e := NewEye(""); e == nil || e.Left() != 0 || e.Blind() || !e.Done() {
		t.Error("of no bytes")
	}
	if e := NewEye("\x00"); e == nil || e.Left() != 1 || e.Blind() || e.Done() {
		t.Error("of one byte")
	}
}

func TestEyesAreApart(t *testing.T) {
	one, other := NewEye("ab"), NewEye("ab")
	one.Take(9)
	if other.Take(1) != "a" || other.Left() != 1 || other.Blind() {
		t.Error("the other one read too")
	}
}

// asks is what an eye may be asked for; each tells whether it got 0, or "".
func asks() map[string]func(e *Eye) bool {
	return map[string]func(e *Eye) bool{
		"Byte":      func(e *Eye) bool { return e.Byte() == 0 },
		"Two":       func(e *Eye) bool { return e.Two() == 0 },
		"Four":      func(e *Eye) bool { return e.Four() == 0 },
		"Take(0)":   func(e *Eye) bool { return e.Take(0) == "" },
		"Take(1)":   func(e *Eye) bool { return e.Take(1) == "" },
		"Take(-1)":  func(e *Eye) bool { return e.Take(-1) == "" },
		"Take(all)": func(e *Eye) bool { return e.Take(math.MaxInt) == "" },
		"Small":     func(e *Eye) bool { return e.Small() == "" },
	}
}

// checkBlind holds that e is blind, and stays so whatever it is asked for.
func checkBlind(t *testing.T, name string, e *Eye) {
	t.Helper()
	told := func(behind string) {
		if !e.Blind() || e.Done() || e.Left() != 0 {
			t.Errorf("%s, behind %s: Blind %v, Done %v, Left %d", name, behind, e.Blind(), e.Done(), e.Left())
		}
	}
	told("it")
	for range 2 {
		for ask, empty := range asks() {
			if !empty(e) {
				t.Errorf("%s: then %s reads something", name, ask)
			}
			told(ask)
		}
	}
}

func TestEyeThatShouldReadMoreIsBlind(t *testing.T) {
	type shortText struct {
		name string
		s    string
		ask  func(e *Eye) bool
	}
	short := []shortText{
		{"Byte of none", "", asks()["Byte"]},
		{"Two of none", "", asks()["Two"]},
		{"Two of one", "\xff", asks()["Two"]},
		{"Four of none", "", asks()["Four"]},
		{"Four of one", "\xff", asks()["Four"]},
		{"Four of three", "\xff\xff\xff", asks()["Four"]},
		{"Small of none", "", asks()["Small"]},
		{"Small without its byte", "\x01", asks()["Small"]},
		{"Small without its last byte", "\x05\x01abc", asks()["Small"]},
		{"Small without all but one", "\xffa", asks()["Small"]},
		{"Small without its last of 255", "\xff" + everyByte()[1:], asks()["Small"]},
	}
	for _, n := range []int{1, 4, 5, 256, 1 << 31, 1 << 32, 1<<32 + 1, 1 << 40, math.MaxInt - 1, math.MaxInt} {
		ask := func(e *Eye) bool { return e.Take(n) == "" }
		short = append(short, shortText{"Take of " + strconv.Itoa(n), strings.Repeat("a", min(n, 300)-1), ask})
	}
	for _, c := range short {
		for _, ahead := range []string{"", "ahead"} {
			e := NewEye(ahead + c.s)
			if e.Take(len(ahead)) != ahead || e.Blind() {
				t.Errorf("%s: blind too early", c.name)
			}
			if !c.ask(e) {
				t.Errorf("%s of %d bytes: something is read", c.name, len(c.s))
			}
			checkBlind(t, c.name, e)
		}
	}
}

func TestTake(t *testing.T) {
	for _, s := range []string{"", "a", "abc", everyByte()} {
		e := NewEye(s)
		for range 3 {
			if e.Take(0) != "" || e.Blind() || e.Left() != len(s) || e.Done() != (s == "") {
				t.Errorf("Take(0) of %q", s)
			}
		}
		if got := e.Take(len(s)); got != s || !e.Done() {
			t.Errorf("Take of all of %q: %q", s, got)
		}
		if e.Take(0) != "" || e.Blind() || !e.Done() {
			t.Errorf("Take(0) behind all of %q", s)
		}
		for _, n := range []int{-1, -2, -256, -1 << 32, math.MinInt + 1, math.MinInt} {
			e := NewEye(s)
			if got := e.Take(n); got != "" {
				t.Errorf("Take(%d) of %q: %q", n, s, got)
			}
			checkBlind(t, "Take below 0", e)
		}
	}
	e := NewEye("abcdef")
	if got := []string{e.Take(1), e.Take(2), e.Take(0), e.Take(3)}; !slices.Equal(got, []string{"a", "bc", "", "def"}) {
		t.Errorf("bit by bit: %q", got)
	}
}

func TestNilPen(t *testing.T) {
	var none *Pen
	if none.Byte(1) != nil || none.Two(2) != nil || none.Four(3) != nil || none.Text("a") != nil || none.Text("") != nil {
		t.Error("not itself")
	}
	for _, s := range []string{"", "a", everyByte(), strings.Repeat("a", 256)} {
		if none.Small(s) {
			t.Errorf("Small of %d bytes", len(s))
		}
	}
	if none.Byte(1).Two(2).Four(3).Text("a").Len() != 0 || none.String() != "" {
		t.Error("something is written")
	}
}

func TestNilEye(t *testing.T) {
	var none *Eye
	checkBlind(t, "nil", none)
	for _, n := range []int{math.MinInt, -1, 0, 1, math.MaxInt} {
		if got := none.Take(n); got != "" {
			t.Errorf("Take(%d) = %q", n, got)
		}
	}
}

// checkRun writes the things of a run, and reads them back (P2.2).
func checkRun(t *testing.T, run []thing) {
	t.Helper()
	p := NewPen()
	want := ""
	for _, one := range run {
		if !one.write(p) {
			t.Errorf("%s of %q: not answered so", one.name, one.bytes)
		}
		want += one.bytes
	}
	if p.String() != want || p.Len() != len(want) {
		t.Fatalf("%q is written, want %q", p.String(), want)
	}
	e := NewEye(p.String())
	left := len(want)
	for i, one := range run {
		if e.Left() != left || e.Done() != (left == 0) || e.Blind() {
			t.Fatalf("ahead of thing %d of %q: %d left, want %d", i, want, e.Left(), left)
		}
		if !one.read(e) {
			t.Fatalf("thing %d of %q isn't read", i, want)
		}
		left -= len(one.bytes)
	}
	if !e.Done() || e.Blind() || e.Left() != 0 {
		t.Errorf("%q isn't done", want)
	}
	if e.Byte() != 0 || !e.Blind() {
		t.Errorf("behind %q is something more", want)
	}
}

func TestAnEyeReadsWhatAPenWrote(t *testing.T) {
	all := things()
	checkRun(t, nil)
	for _, first := range all {
		checkRun(t, []thing{first})
		for _, second := range all {
			checkRun(t, []thing{first, second})
			checkRun(t, []thing{second, textThing(""), first, textThing("")})
		}
	}
	few := []thing{byteThing(255), twoThing(1), fourThing(0x80000000), textThing(""), textThing("ab"), smallThing(""), smallThing("\xfe\xff")}
	runs := len(few) * len(few) * len(few) * len(few) * len(few)
	for number := range runs {
		run := []thing{}
		for left := number; len(run) < 5; left /= len(few) {
			run = append(run, few[left%len(few)])
		}
		checkRun(t, run)
	}
}

func TestAnEyeReadsALongRun(t *testing.T) {
	all := things()
	run := []thing{}
	for i := range 40 * len(all) {
		run = append(run, all[i*7%len(all)])
	}
	checkRun(t, run)
}

// TestEveryCallEnds hands in what lies at the ends of each kind, in every state of a pen and an eye (P0).
func TestEveryCallEnds(t *testing.T) {
	long := strings.Repeat("\xa5", 1<<20)
	for _, p := range []*Pen{nil, {}, NewPen(), NewPen().Text(long)} {
		for _, s := range []string{"", "\xff", everyByte(), long} {
			p.Byte(0).Byte(math.MaxUint8).Two(0).Two(math.MaxUint16).Four(0).Four(math.MaxUint32).Text(s).Small(s)
			if p.Len() != len(p.String()) {
				t.Errorf("%d bytes, of %d", p.Len(), len(p.String()))
			}
		}
	}
	for _, s := range []string{"", "\x00", "\xff", "\x01a", everyByte(), long} {
		for _, n := range []int{math.MinInt, -1 << 32, -1, 0, 1, len(s), len(s) + 1, 1 << 31, 1 << 32, math.MaxInt} {
			for _, e := range []*Eye{nil, {}, NewEye(s)} {
				e.Take(n)
				e.Small()
				e.Byte()
				e.Two()
				e.Four()
				if e.Left() < 0 || e.Blind() && (e.Done() || e.Left() != 0) {
					t.Errorf("behind Take(%d) of %d bytes: %d left", n, len(s), e.Left())
				}
			}
		}
	}
}
