package retain

import (
	"math"
	"strconv"
	"strings"
	"testing"

	"fugleman/api"
	"fugleman/crc"
	"fugleman/store"
)

// parts are what a slot is made of, one by one, so that each of them alone may be wrong. turned turns bits of the sum.
type parts struct {
	mark   byte
	seq    uint32
	inc    uint16
	length byte
	filled string
	turned uint16
}

func (p parts) bytes() string {
	body := []byte{byte(p.seq >> 24), byte(p.seq >> 16), byte(p.seq >> 8), byte(p.seq), byte(p.inc >> 8), byte(p.inc), p.length}
	body = append(body, p.filled...)
	sum := crc.Sum(string(body)) ^ p.turned
	return string([]byte{p.mark}) + string(body) + string([]byte{byte(sum >> 8), byte(sum)})
}

func tell(r api.Record) string {
	return "Seq " + strconv.FormatUint(uint64(r.Seq), 10) + ", Inc " + strconv.Itoa(int(r.Inc)) + ", " + strconv.Quote(r.Data)
}

func fill(data string) string {
	return data + strings.Repeat("\x00", 64-len(data))
}

func partsOf(r api.Record) parts {
	return parts{mark: 0xA5, seq: r.Seq, inc: r.Inc, length: byte(len(r.Data)), filled: fill(r.Data)}
}

func slotOf(r api.Record) string {
	return partsOf(r).bytes()
}

func zeros(n int) string {
	return strings.Repeat("\x00", n)
}

// longText is n bytes, among them 0 and 255, in which no short piece comes again.
func longText(n int) string {
	bytes := make([]byte, n)
	for i := range bytes {
		bytes[i] = byte(i*i*5 + i*3 + i/7)
	}
	for i := 0; i < n; i += 9 {
		bytes[i] = 255 * byte(i/9%2)
	}
	return string(bytes)
}

// look is all that layer 6 tells of a store.
type look struct {
	bytes string
	power bool
	armed bool
	left  int
	wrote int
}

func (l look) String() string {
	return strconv.Quote(l.bytes) + ", power " + strconv.FormatBool(l.power) + ", armed " + strconv.FormatBool(l.armed) +
		" for " + strconv.Itoa(l.left) + ", wrote " + strconv.Itoa(l.wrote)
}

func lookAt(t *testing.T, d *store.Store) look {
	t.Helper()
	bytes, ok := d.Read(0, d.Len())
	if !ok {
		t.Fatal("Read of all bytes")
	}
	left, armed := d.Armed()
	return look{bytes: bytes, power: d.Power(), armed: armed, left: left, wrote: d.Wrote()}
}

func expect(t *testing.T, what string, d *store.Store, want look) {
	t.Helper()
	if got := lookAt(t, d); got != want {
		t.Errorf("%s:\n got %s\nwant %s", what, got, want)
	}
}

func expectLoad(t *testing.T, what string, d *store.Store, want api.Record, wantOK bool) {
	t.Helper()
	if got, ok := Load(d); got != want || ok != wantOK {
		t.Errorf("%s: Load = %s, %v, want %s, %v", what, tell(got), ok, tell(want), wantOK)
	}
}

func expectCommit(t *testing.T, what string, d *store.Store, inc uint16, data string, want api.Errno) {
	t.Helper()
	if e := Commit(d, inc, data); e != want {
		t.Errorf("%s: Commit(%d, %.70q) = %d, want %d", what, inc, data, e, want)
	}
}

func expectBoot(t *testing.T, what string, d *store.Store, want api.Record, wantE api.Errno) {
	t.Helper()
	if got, e := Boot(d); got != want || e != wantE {
		t.Errorf("%s: Boot = %s, %d, want %s, %d", what, tell(got), e, tell(want), wantE)
	}
}

// twin goes by the words of the chapter, by the places of bytes and one byte at a time. Its store has two slots at least.
type twin struct {
	cells []byte
	power bool
	armed bool
	left  int
	wrote int
}

func newTwin(bytes string) *twin {
	return &twin{cells: []byte(bytes), power: true}
}

func (w *twin) look() look {
	return look{bytes: string(w.cells), power: w.power, armed: w.armed, left: w.left, wrote: w.wrote}
}

func (w *twin) on() {
	w.power = true
}

func (w *twin) off() {
	w.power, w.armed, w.left = false, false, 0
}

func (w *twin) arm(n int) {
	w.armed, w.left = true, n
}

// set writes one byte, and tells whether there was power for it.
func (w *twin) set(at int, b byte) bool {
	if w.power && w.armed && w.left == 0 {
		w.off()
	}
	if !w.power {
		return false
	}
	w.cells[at] = b
	w.wrote++
	if w.armed {
		w.left--
	}
	return true
}

func (w *twin) number(at, size int) int {
	n := 0
	for i := range size {
		n = n*256 + int(w.cells[at+i])
	}
	return n
}

func (w *twin) slot(at int) (api.Record, bool) {
	length := w.number(at+7, 1)
	if w.cells[at] != 0xA5 || length > 64 || w.number(at+72, 2) != int(crc.Sum(string(w.cells[at+1:at+72]))) {
		return api.Record{}, false
	}
	for place := at + 8 + length; place < at+72; place++ {
		if w.cells[place] != 0 {
			return api.Record{}, false
		}
	}
	data := string(w.cells[at+8 : at+8+length])
	return api.Record{Seq: uint32(w.number(at+1, 4)), Inc: uint16(w.number(at+5, 2)), Data: data}, true
}

// newest tells the newest record, the place of its slot, and whether there is one.
func (w *twin) newest() (api.Record, int, bool) {
	best, place, found := api.Record{}, 0, false
	for _, at := range []int{0, 74} {
		if r, ok := w.slot(at); ok && (!found || r.Seq > best.Seq) {
			best, place, found = r, at, true
		}
	}
	return best, place, found
}

func (w *twin) write(r api.Record) api.Errno {
	_, place, found := w.newest()
	at := 0
	if found {
		at = 74 - place
	}
	bytes := slotOf(r)
	done := w.set(at, 0)
	for i := 1; i < 74 && done; i++ {
		done = w.set(at+i, bytes[i])
	}
	if !done || !w.set(at, 0xA5) {
		return api.ErrDown
	}
	return api.OK
}

func (w *twin) load() (api.Record, bool) {
	r, _, found := w.newest()
	return r, found
}

func (w *twin) commit(inc uint16, data string) api.Errno {
	last, _, _ := w.newest()
	if len(data) > 64 {
		return api.ErrLong
	}
	if last.Seq == 4294967295 {
		return api.ErrSat
	}
	return w.write(api.Record{Seq: last.Seq + 1, Inc: inc, Data: data})
}

func (w *twin) boot() (api.Record, api.Errno) {
	last, _, _ := w.newest()
	if last.Inc == 65535 || last.Seq == 4294967295 {
		return api.Record{}, api.ErrSat
	}
	r := api.Record{Seq: last.Seq + 1, Inc: last.Inc + 1, Data: last.Data}
	if e := w.write(r); e != api.OK {
		return api.Record{}, e
	}
	return r, api.OK
}

// pair is a store and its twin.
type pair struct {
	d *store.Store
	w *twin
}

func newPair(bytes string) pair {
	return pair{store.Of(bytes), newTwin(bytes)}
}

func (p pair) on() {
	p.d.On()
	p.w.on()
}

func (p pair) off() {
	p.d.Off()
	p.w.off()
}

func (p pair) arm(n int) {
	p.d.Arm(n)
	p.w.arm(n)
}

// same holds all that is told of both against one another.
func (p pair) same(t *testing.T, what string) {
	t.Helper()
	expect(t, what, p.d, p.w.look())
	r, ok := p.w.load()
	expectLoad(t, what, p.d, r, ok)
}

func (p pair) commit(t *testing.T, what string, inc uint16, data string) {
	t.Helper()
	expectCommit(t, what, p.d, inc, data, p.w.commit(inc, data))
	p.same(t, what)
}

func (p pair) boot(t *testing.T, what string) {
	t.Helper()
	r, e := p.w.boot()
	expectBoot(t, what, p.d, r, e)
	p.same(t, what)
}

// half is a slot's bytes, and the record that they are, if they are whole.
type half struct {
	name   string
	bytes  string
	record api.Record
	whole  bool
}

func wholeHalf(seq uint32, inc uint16, data string) half {
	r := api.Record{Seq: seq, Inc: inc, Data: data}
	return half{"whole, Seq " + strconv.Itoa(int(seq)), slotOf(r), r, true}
}

// wholeHalves have Seqs that are greater in one byte and smaller in another, and the ends of all numbers and lengths.
func wholeHalves() []half {
	return []half{
		wholeHalf(0, 0, ""), wholeHalf(0, 9, "zero"), wholeHalf(1, 1, ""), wholeHalf(2, 1, "a"), wholeHalf(2, 2, "two"), wholeHalf(255, 0, "\x00"),
		wholeHalf(256, 65534, "\xff"), wholeHalf(0x01020304, 0x0506, longText(63)), wholeHalf(0x04030201, 0x0605, longText(64)), wholeHalf(0x00FFFFFF, 256, zeros(64)),
		wholeHalf(0x7FFFFFFF, 255, strings.Repeat("\xff", 64)), wholeHalf(0x80000000, 32767, "a\x00"), wholeHalf(0xFFFF0000, 32768, "\x00a"),
		wholeHalf(0xFFFFFFFD, 65534, "b"), wholeHalf(0xFFFFFFFE, 65534, "near"), wholeHalf(0xFFFFFFFE, 65535, "at its end"), wholeHalf(0xFFFFFFFF, 7, "Seq"),
		wholeHalf(0xFFFFFFFF, 65535, "both"), wholeHalf(1000, 65535, "Inc"),
	}
}

// brokenHalves aren't whole, each by one thing alone but the last ones.
func brokenHalves() []half {
	list := []half{}
	add := func(name string, change func(p *parts)) {
		for _, r := range []api.Record{{Seq: 3, Inc: 4, Data: "abc"}, {Seq: 0xFFFFFFFF, Inc: 65535, Data: longText(63)}} {
			p := partsOf(r)
			change(&p)
			list = append(list, half{name: name, bytes: p.bytes()})
		}
	}
	for _, mark := range []byte{0, 1, 0x25, 0x5A, 0x85, 0xA4, 0xA7, 0xAD, 0xB5, 0xE5, 255} {
		add("mark "+strconv.Itoa(int(mark)), func(p *parts) { p.mark = mark })
	}
	for _, length := range []byte{65, 66, 67, 73, 127, 128, 192, 255} {
		add("length "+strconv.Itoa(int(length)), func(p *parts) { p.length = length })
	}
	for _, last := range []byte{1, 32, 128, 255} {
		add("behind Data "+strconv.Itoa(int(last)), func(p *parts) { p.filled = p.filled[:63] + string([]byte{last}) })
	}
	for _, turned := range []uint16{1, 0x80, 0x100, 0x8000, 0xFFFF} {
		add("sum "+strconv.Itoa(int(turned)), func(p *parts) { p.turned = turned })
	}
	return append(list, half{name: "zeros", bytes: zeros(74)}, half{name: "255", bytes: strings.Repeat("\xff", 74)},
		half{name: "marks", bytes: strings.Repeat("\xa5", 74)}, half{name: "a mark, zeros", bytes: "\xa5" + zeros(73)},
		half{name: "a whole one, moved on", bytes: "\x00" + slotOf(api.Record{Seq: 5, Inc: 5, Data: "x"})[:73]},
		half{name: "a whole one, moved back", bytes: slotOf(api.Record{Seq: 5, Inc: 5, Data: "x"})[1:] + "\x00"})
}

// afterCommit is what the 148 bytes are behind a commit that was whole.
func afterCommit(first, second half, r api.Record) string {
	if first.whole && !(second.whole && second.record.Seq > first.record.Seq) {
		return first.bytes + slotOf(r)
	}
	return slotOf(r) + second.bytes
}

func newestOf(first, second half) (api.Record, bool) {
	switch {
	case first.whole && second.whole && second.record.Seq > first.record.Seq:
		return second.record, true
	case first.whole:
		return first.record, true
	}
	return second.record, second.whole
}

func TestSizeAndCost(t *testing.T) {
	for range 2 {
		if Size() != 148 || Cost() != 75 {
			t.Errorf("Size %d, Cost %d", Size(), Cost())
		}
	}
	d := store.New(Size())
	expectBoot(t, "first", d, api.Record{Seq: 1, Inc: 1}, api.OK)
	if d.Wrote() != Cost() {
		t.Errorf("a Boot wrote %d", d.Wrote())
	}
	expectCommit(t, "second", d, 1, "abc", api.OK)
	if d.Wrote() != 2*Cost() {
		t.Errorf("a Boot and a Commit wrote %d", d.Wrote())
	}
}

// TestBytesOfASlot has sums from elsewhere, and each byte of each number is another one.
func TestBytesOfASlot(t *testing.T) {
	for _, c := range []struct {
		record api.Record
		bytes  string
	}{
		{api.Record{Seq: 1, Inc: 1}, "\xa5\x00\x00\x00\x01\x00\x01\x00" + zeros(64) + "\xb4\x95"},
		{api.Record{Seq: 2, Inc: 0x0708, Data: "ab"}, "\xa5\x00\x00\x00\x02\x07\x08\x02ab" + zeros(62) + "\xc3\xf5"},
		{api.Record{Seq: 0x01020304, Inc: 0x0506, Data: strings.Repeat("\x00\xff", 32)}, "\xa5\x01\x02\x03\x04\x05\x06\x40" + strings.Repeat("\x00\xff", 32) + "\x40\x67"},
		{api.Record{Seq: 0xFFFFFFFF, Inc: 0xFFFF, Data: strings.Repeat("\xff", 64)}, "\xa5\xff\xff\xff\xff\xff\xff\x40" + strings.Repeat("\xff", 64) + "\xef\xa6"},
		{api.Record{Seq: 0xFEDCBA98, Inc: 0x7654, Data: "\x00"}, "\xa5\xfe\xdc\xba\x98\x76\x54\x01" + zeros(64) + "\x36\x0e"},
	} {
		expectLoad(t, "first slot", store.Of(c.bytes+zeros(74)), c.record, true)
		expectLoad(t, "second slot", store.Of(zeros(74)+c.bytes), c.record, true)
		before := zeros(74)
		if c.record.Seq > 1 {
			before = slotOf(api.Record{Seq: c.record.Seq - 1, Inc: 3, Data: "before"})
		}
		d := store.Of(zeros(74) + before)
		expectCommit(t, "into the first slot", d, c.record.Inc, c.record.Data, api.OK)
		expect(t, "into the first slot", d, look{bytes: c.bytes + before, power: true, wrote: 75})
		if c.record.Seq == 1 {
			continue
		}
		d = store.Of(before + zeros(74))
		expectCommit(t, "into the second slot", d, c.record.Inc, c.record.Data, api.OK)
		expect(t, "into the second slot", d, look{bytes: before + c.bytes, power: true, wrote: 75})
	}
	expectLoad(t, "all 0", store.Of("\xa5"+zeros(71)+"\xc2\xfd"+zeros(74)), api.Record{}, true)
}

func TestExample(t *testing.T) {
	d := store.New(148)
	expectLoad(t, "new", d, api.Record{}, false)
	expectBoot(t, "Boot", d, api.Record{Seq: 1, Inc: 1}, api.OK)
	expectBoot(t, "Boot, Boot", d, api.Record{Seq: 2, Inc: 2}, api.OK)
	expectLoad(t, "Boot, Boot", d, api.Record{Seq: 2, Inc: 2}, true)
	expect(t, "Boot, Boot", d, look{bytes: slotOf(api.Record{Seq: 1, Inc: 1}) + slotOf(api.Record{Seq: 2, Inc: 2}), power: true, wrote: 150})
}

// TestAllPairsOfSlots holds what is told of, and done with, each two slots one beside the other.
func TestAllPairsOfSlots(t *testing.T) {
	list := append(wholeHalves(), brokenHalves()...)
	for _, first := range list {
		for _, second := range list {
			what := first.name + " | " + second.name
			bytes := first.bytes + second.bytes
			last, ok := newestOf(first, second)

			d := store.Of(bytes)
			expectLoad(t, what, d, last, ok)
			expect(t, what, d, look{bytes: bytes, power: true})

			want, e := look{bytes: bytes, power: true}, api.ErrSat
			if last.Seq < 0xFFFFFFFF {
				r := api.Record{Seq: last.Seq + 1, Inc: 0x1234, Data: "\xffnew\x00"}
				want, e = look{bytes: afterCommit(first, second, r), power: true, wrote: 75}, api.OK
				last = api.Record{Seq: r.Seq, Inc: r.Inc, Data: r.Data}
			}
			expectCommit(t, what, d, 0x1234, "\xffnew\x00", e)
			expect(t, what+", Commit", d, want)
			expectLoad(t, what+", Commit", d, last, ok || e == api.OK)
		}
	}
}

func TestBootOfAllPairsOfSlots(t *testing.T) {
	list := append(wholeHalves(), brokenHalves()...)
	for _, first := range list {
		for _, second := range list {
			what := first.name + " | " + second.name
			last, ok := newestOf(first, second)
			d := store.Of(first.bytes + second.bytes)
			if last.Seq == 0xFFFFFFFF || last.Inc == 65535 {
				expectBoot(t, what, d, api.Record{}, api.ErrSat)
				expect(t, what+", Boot", d, look{bytes: first.bytes + second.bytes, power: true})
				expectLoad(t, what+", Boot", d, last, ok)
				continue
			}
			r := api.Record{Seq: last.Seq + 1, Inc: last.Inc + 1, Data: last.Data}
			expectBoot(t, what, d, r, api.OK)
			expect(t, what+", Boot", d, look{bytes: afterCommit(first, second, r), power: true, wrote: 75})
			expectLoad(t, what+", Boot", d, r, true)
		}
	}
}

// TestTheNewestSlot names which one that is; Seqs are numbers without a sign, and what else is in a slot plays no part.
func TestTheNewestSlot(t *testing.T) {
	const first, second, none = 1, 2, 0
	broken := brokenHalves()[0]
	for _, c := range []struct {
		a, b half
		want int
	}{
		{broken, broken, none}, {wholeHalf(0, 0, ""), broken, first}, {broken, wholeHalf(0, 0, ""), second},
		{wholeHalf(1, 5, "a"), broken, first}, {broken, wholeHalf(1, 5, "a"), second},
		{wholeHalf(2, 1, "a"), wholeHalf(1, 9, "b"), first}, {wholeHalf(1, 9, "b"), wholeHalf(2, 1, "a"), second},
		{wholeHalf(7, 1, "a"), wholeHalf(7, 9, "b"), first}, {wholeHalf(7, 9, "b"), wholeHalf(7, 1, "a"), first}, {wholeHalf(0, 1, "a"), wholeHalf(0, 2, "b"), first},
		{wholeHalf(0xFFFFFFFF, 1, "a"), wholeHalf(0xFFFFFFFF, 2, "b"), first}, {wholeHalf(0xFFFFFFFF, 1, "a"), wholeHalf(0, 2, "b"), first},
		{wholeHalf(0, 1, "a"), wholeHalf(0xFFFFFFFF, 2, "b"), second}, {wholeHalf(0x7FFFFFFF, 1, "a"), wholeHalf(0x80000000, 2, "b"), second},
		{wholeHalf(0x80000000, 1, "a"), wholeHalf(0x7FFFFFFF, 2, "b"), first}, {wholeHalf(0xFF, 1, "a"), wholeHalf(0x100, 2, "b"), second},
		{wholeHalf(0x00FFFFFF, 1, "a"), wholeHalf(0x01000000, 2, "b"), second}, {wholeHalf(0x01000000, 1, "a"), wholeHalf(0x00FFFFFF, 2, "b"), first},
		{wholeHalf(0xFFFF, 1, "a"), wholeHalf(0x10000, 2, "b"), second}, {wholeHalf(0x10001, 1, "a"), wholeHalf(0x10000, 2, "b"), first},
		{wholeHalf(0, 0, ""), wholeHalf(0, 65535, "b"), first}, {wholeHalf(0, 0, ""), wholeHalf(1, 0, ""), second},
	} {
		want := [3]api.Record{{}, c.a.record, c.b.record}[c.want]
		expectLoad(t, c.a.name+" | "+c.b.name, store.Of(c.a.bytes+c.b.bytes), want, c.want != none)
	}
}

func TestLoadOfNoWholeSlot(t *testing.T) {
	for _, first := range brokenHalves() {
		for _, second := range brokenHalves() {
			d := store.Of(first.bytes + second.bytes)
			expectLoad(t, first.name+" | "+second.name, d, api.Record{}, false)
			r := api.Record{Seq: 1, Inc: 1}
			expectBoot(t, first.name+" | "+second.name, d, r, api.OK)
			expect(t, first.name+" | "+second.name, d, look{bytes: slotOf(r) + second.bytes, power: true, wrote: 75})
		}
	}
}

// beside holds a slot, in both places, with the other one whole (less new, newer) and not.
func beside(t *testing.T, what string, h half) {
	t.Helper()
	for _, other := range []half{wholeHalf(0, 1, "old"), wholeHalf(40000, 2, "new"), brokenHalves()[0], {name: "zeros", bytes: zeros(74)}} {
		r, ok := newestOf(h, other)
		expectLoad(t, what+", "+other.name+" behind it", store.Of(h.bytes+other.bytes), r, ok)
		r, ok = newestOf(other, h)
		expectLoad(t, what+", "+other.name+" ahead of it", store.Of(other.bytes+h.bytes), r, ok)
	}
}

func TestEveryMark(t *testing.T) {
	r := api.Record{Seq: 300, Inc: 20, Data: "marked"}
	for mark := range 256 {
		p := partsOf(r)
		p.mark = byte(mark)
		h := half{bytes: p.bytes()}
		if mark == 0xA5 {
			h.record, h.whole = r, true
		}
		beside(t, "mark "+strconv.Itoa(mark), h)
	}
}

// TestEveryLength has the right sum of each length, with bytes 0 alone, and with none.
func TestEveryLength(t *testing.T) {
	for length := range 256 {
		p := parts{mark: 0xA5, seq: 300, inc: 20, length: byte(length), filled: zeros(64)}
		h := half{bytes: p.bytes()}
		if length <= 64 {
			h.record, h.whole = api.Record{Seq: 300, Inc: 20, Data: zeros(length)}, true
		}
		beside(t, "zeros, length "+strconv.Itoa(length), h)
		p.filled = strings.Repeat("\xff", 64)
		h = half{bytes: p.bytes()}
		if length == 64 {
			h.record, h.whole = api.Record{Seq: 300, Inc: 20, Data: p.filled}, true
		}
		beside(t, "255, length "+strconv.Itoa(length), h)
	}
}

// TestAByteBehindData turns one byte behind Data, at each place behind each length; the sum is right.
func TestAByteBehindData(t *testing.T) {
	for length := range 65 {
		r := api.Record{Seq: 300, Inc: 20, Data: longText(length)}
		for place := length; place < 64; place++ {
			for _, b := range []byte{1, 32, 128, 255} {
				p := partsOf(r)
				filled := []byte(p.filled)
				filled[place] = b
				p.filled = string(filled)
				what := "length " + strconv.Itoa(length) + ", at " + strconv.Itoa(place)
				expectLoad(t, what, store.Of(p.bytes()+zeros(74)), api.Record{}, false)
				expectLoad(t, what, store.Of(slotOf(api.Record{Seq: 299, Data: "old"})+p.bytes()), api.Record{Seq: 299, Data: "old"}, true)
			}
		}
		beside(t, "as it was", half{bytes: slotOf(r), record: r, whole: true})
	}
}

// TestEverySum finds one right one among all.
func TestEverySum(t *testing.T) {
	r := api.Record{Seq: 300, Inc: 20, Data: "summed"}
	for turned := range 65536 {
		p := partsOf(r)
		p.turned = uint16(turned)
		if got, ok := Load(store.Of(zeros(74) + p.bytes())); ok != (turned == 0) || ok && got != r || !ok && got != (api.Record{}) {
			t.Fatalf("sum turned by %d: %s, %v", turned, tell(got), ok)
		}
	}
}

// TestEveryBitOfASlot turns each bit alone: without a right sum no slot is whole.
func TestEveryBitOfASlot(t *testing.T) {
	for _, r := range []api.Record{{Seq: 300, Inc: 20, Data: longText(64)}, {Seq: 300, Inc: 20}, {Seq: 300, Inc: 20, Data: "middle"}} {
		for place := range 74 {
			for bit := range 8 {
				bytes := []byte(slotOf(r))
				bytes[place] ^= 1 << bit
				beside(t, "byte "+strconv.Itoa(place)+", bit "+strconv.Itoa(bit), half{bytes: string(bytes)})
			}
		}
	}
}

func TestCommitOfData(t *testing.T) {
	for n := range 65 {
		for _, data := range []string{zeros(n), strings.Repeat("\xff", n), longText(n), strings.Repeat("\xa5", n), strings.Repeat("x", n/2) + zeros(n-n/2), zeros(n/2) + strings.Repeat("y", n-n/2)} {
			d := store.New(148)
			for seq := range uint32(4) {
				r := api.Record{Seq: seq + 1, Inc: 77, Data: data}
				expectCommit(t, strconv.Itoa(n), d, 77, data, api.OK)
				expectLoad(t, strconv.Itoa(n), d, r, true)
			}
			r := api.Record{Seq: 5, Inc: 78, Data: data}
			expectBoot(t, strconv.Itoa(n), d, r, api.OK)
			expectLoad(t, strconv.Itoa(n), d, r, true)
		}
	}
}

// TestDataThatIsTooLong has lengths that one byte would tell as short ones.
func TestDataThatIsTooLong(t *testing.T) {
	for _, n := range []int{65, 66, 127, 128, 255, 256, 257, 319, 320, 321, 512, 65535, 65536, 65600, 1 << 20} {
		for _, data := range []string{zeros(n), strings.Repeat("\xff", n)} {
			d := store.New(148)
			expectCommit(t, "new", d, 1, data, api.ErrLong)
			expect(t, "new", d, look{bytes: zeros(148), power: true})
			expectCommit(t, "short", d, 1, "short", api.OK)
			before := lookAt(t, d)
			expectCommit(t, "behind another", d, 1, data, api.ErrLong)
			expect(t, "behind another", d, before)
			expectLoad(t, "behind another", d, api.Record{Seq: 1, Inc: 1, Data: "short"}, true)
		}
	}
}

// TestALongDataBehindAShortOne and the other way: nothing of what a slot had is left in it.
func TestALongDataBehindAShortOne(t *testing.T) {
	d := store.New(148)
	w := newTwin(zeros(148))
	for _, n := range []int{64, 63, 0, 1, 64, 64, 0, 0, 1, 2, 33, 32, 64, 0, 63} {
		data := longText(64)[64-n:]
		expectCommit(t, "Commit", d, 3, data, w.commit(3, data))
		expect(t, "Commit", d, w.look())
		r, _ := w.load()
		expectLoad(t, "Commit", d, r, true)
		if r.Data != data {
			t.Errorf("%d bytes: %q", n, r.Data)
		}
	}
}

// TestIncOfACommit is any: a commit asks nothing of it.
func TestIncOfACommit(t *testing.T) {
	for _, before := range []uint16{0, 1, 500, 65534, 65535} {
		for _, inc := range []uint16{0, 1, 2, 255, 256, 0x0102, 0x0201, 32767, 32768, 65534, 65535} {
			d := store.Of(slotOf(api.Record{Seq: 9, Inc: before}) + zeros(74))
			expectCommit(t, "Inc", d, inc, "i", api.OK)
			expectLoad(t, "Inc", d, api.Record{Seq: 10, Inc: inc, Data: "i"}, true)
		}
	}
}

func TestBootsNextIncarnation(t *testing.T) {
	for _, inc := range []uint16{0, 1, 2, 254, 255, 256, 32767, 32768, 65279, 65280, 65533, 65534} {
		d := store.Of(zeros(74) + slotOf(api.Record{Seq: 9, Inc: inc, Data: "kept\x00"}))
		r := api.Record{Seq: 10, Inc: inc + 1, Data: "kept\x00"}
		expectBoot(t, "Boot", d, r, api.OK)
		expectLoad(t, "Boot", d, r, true)
	}
}

// TestBootTakesTheNewestInc, not the greatest one.
func TestBootTakesTheNewestInc(t *testing.T) {
	d := store.Of(slotOf(api.Record{Seq: 9, Inc: 65535, Data: "old"}) + slotOf(api.Record{Seq: 10, Inc: 4, Data: "new"}))
	expectBoot(t, "behind a greater one", d, api.Record{Seq: 11, Inc: 5, Data: "new"}, api.OK)
	d = store.Of(slotOf(api.Record{Seq: 10, Inc: 65535, Data: "new"}) + slotOf(api.Record{Seq: 9, Inc: 4, Data: "old"}))
	expectBoot(t, "ahead of a smaller one", d, api.Record{}, api.ErrSat)
	expectCommit(t, "a Commit may be done", d, 65535, "newer", api.OK)
	expectBoot(t, "at its end still", d, api.Record{}, api.ErrSat)
	expectCommit(t, "another Inc", d, 0, "newest", api.OK)
	expectBoot(t, "not at its end", d, api.Record{Seq: 13, Inc: 1, Data: "newest"}, api.OK)
}

// TestTheEndOfSeq goes up to it, in both slots, and is refused there.
func TestTheEndOfSeq(t *testing.T) {
	for _, bytes := range []string{
		slotOf(api.Record{Seq: 4294967293, Inc: 5, Data: "d"}) + zeros(74),
		zeros(74) + slotOf(api.Record{Seq: 4294967293, Inc: 5, Data: "d"}),
		slotOf(api.Record{Seq: 4294967292, Inc: 6}) + slotOf(api.Record{Seq: 4294967293, Inc: 5, Data: "d"}),
	} {
		d := store.Of(bytes)
		expectCommit(t, "4294967294", d, 5, "e", api.OK)
		expectLoad(t, "4294967294", d, api.Record{Seq: 4294967294, Inc: 5, Data: "e"}, true)
		expectBoot(t, "4294967295", d, api.Record{Seq: 4294967295, Inc: 6, Data: "e"}, api.OK)
		expectLoad(t, "4294967295", d, api.Record{Seq: 4294967295, Inc: 6, Data: "e"}, true)
		before := lookAt(t, d)
		for range 2 {
			expectCommit(t, "at its end", d, 6, "f", api.ErrSat)
			expectBoot(t, "at its end", d, api.Record{}, api.ErrSat)
			expect(t, "at its end", d, before)
			expectLoad(t, "at its end", d, api.Record{Seq: 4294967295, Inc: 6, Data: "e"}, true)
		}
	}
}

func TestTheEndOfInc(t *testing.T) {
	d := store.Of(slotOf(api.Record{Seq: 20, Inc: 65534, Data: "d"}) + zeros(74))
	expectBoot(t, "65535", d, api.Record{Seq: 21, Inc: 65535, Data: "d"}, api.OK)
	before := lookAt(t, d)
	for range 2 {
		expectBoot(t, "at its end", d, api.Record{}, api.ErrSat)
		expect(t, "at its end", d, before)
	}
	expectCommit(t, "at its end", d, 65535, "e", api.OK)
	expectLoad(t, "at its end", d, api.Record{Seq: 22, Inc: 65535, Data: "e"}, true)
	d = store.Of(slotOf(api.Record{Seq: 4294967294, Inc: 65534, Data: "d"}) + zeros(74))
	expectBoot(t, "both", d, api.Record{Seq: 4294967295, Inc: 65535, Data: "d"}, api.OK)
	expectBoot(t, "both at their ends", d, api.Record{}, api.ErrSat)
	expectCommit(t, "both at their ends", d, 1, "", api.ErrSat)
	d = store.Of(slotOf(api.Record{Seq: 4294967294, Inc: 65535, Data: "d"}) + zeros(74))
	expectBoot(t, "Inc alone", d, api.Record{}, api.ErrSat)
	d = store.Of(slotOf(api.Record{Seq: 4294967295, Inc: 65534, Data: "d"}) + zeros(74))
	expectBoot(t, "Seq alone", d, api.Record{}, api.ErrSat)
}

// TestTheFirstError holds R1 and R3: of several errors the first one, and nothing is changed.
func TestTheFirstError(t *testing.T) {
	atEnd := slotOf(api.Record{Seq: 4294967295, Inc: 65535, Data: "end"}) + slotOf(api.Record{Seq: 2, Inc: 2})
	plain := slotOf(api.Record{Seq: 3, Inc: 3, Data: "plain"}) + zeros(74)
	long, whole := strings.Repeat("z", 65), strings.Repeat("z", 64)
	small := plain[:147]
	for _, c := range []struct {
		name   string
		bytes  string
		data   string
		commit api.Errno
		boot   api.Errno
	}{
		{"long, at its end", atEnd, long, api.ErrLong, api.ErrSat},
		{"long, too small", small, long, api.ErrLong, api.ErrArg},
		{"long", plain, long, api.ErrLong, api.ErrDown},
		{"at its end", atEnd, whole, api.ErrSat, api.ErrSat},
		{"too small", small, whole, api.ErrArg, api.ErrArg},
		{"too small, one slot at its end", atEnd[:147], whole, api.ErrArg, api.ErrArg},
		{"too small, one slot at its end, long", atEnd[:147], long, api.ErrLong, api.ErrArg},
		{"no bytes", "", whole, api.ErrArg, api.ErrArg},
		{"no bytes, long", "", long, api.ErrLong, api.ErrArg},
		{"no power", plain, whole, api.ErrDown, api.ErrDown},
	} {
		d := store.Of(c.bytes)
		if c.commit != api.ErrDown && c.boot != api.ErrDown {
			expectCommit(t, c.name+", power", d, 1, c.data, c.commit)
			expectBoot(t, c.name+", power", d, api.Record{}, c.boot)
			d.Arm(0)
			expectCommit(t, c.name+", armed", d, 1, c.data, c.commit)
			expectBoot(t, c.name+", armed", d, api.Record{}, c.boot)
			expect(t, c.name, d, look{bytes: c.bytes, power: true, armed: true})
		}
		d.Off()
		expectCommit(t, c.name+", no power", d, 1, c.data, c.commit)
		expectBoot(t, c.name+", no power", d, api.Record{}, c.boot)
		expect(t, c.name, d, look{bytes: c.bytes})
		d.Arm(200)
		expectCommit(t, c.name+", no power, armed", d, 1, c.data, c.commit)
		expectBoot(t, c.name+", no power, armed", d, api.Record{}, c.boot)
		expect(t, c.name, d, look{bytes: c.bytes, armed: true, left: 200})
	}
}

// TestStoresThatAreTooSmall have no slot, though the bytes of a whole one may be there.
func TestStoresThatAreTooSmall(t *testing.T) {
	bytes := slotOf(api.Record{Seq: 3, Inc: 3, Data: "first"}) + slotOf(api.Record{Seq: 4, Inc: 4, Data: "second"})
	for n := range 148 {
		for _, d := range []*store.Store{store.New(n), store.Of(bytes[:n])} {
			for _, power := range []bool{true, false} {
				if !power {
					d.Off()
				}
				before := lookAt(t, d)
				expectLoad(t, strconv.Itoa(n), d, api.Record{}, false)
				expectCommit(t, strconv.Itoa(n), d, 1, "x", api.ErrArg)
				expectCommit(t, strconv.Itoa(n), d, 0, "", api.ErrArg)
				expectBoot(t, strconv.Itoa(n), d, api.Record{}, api.ErrArg)
				expect(t, strconv.Itoa(n), d, before)
			}
		}
	}
}

// TestStoresThatAreGreater keep the bytes behind the first 148 as they are.
func TestStoresThatAreGreater(t *testing.T) {
	for _, n := range []int{148, 149, 150, 221, 222, 223, 296, 999, 1000} {
		rest := longText(n - 148)
		p := newPair(zeros(148) + rest)
		for i := range 6 {
			p.boot(t, "Boot")
			p.commit(t, "Commit", uint16(i), longText(i*12))
		}
		if all := lookAt(t, p.d).bytes; all[148:] != rest {
			t.Errorf("%d bytes: %q behind the first ones", n, all[148:])
		}
	}
	third := slotOf(api.Record{Seq: 9, Inc: 9, Data: "no slot"})
	expectLoad(t, "a third slot", store.Of(zeros(148)+third), api.Record{}, false)
	expectLoad(t, "a slot that is moved by a byte", store.Of("\x00"+third+zeros(148)), api.Record{}, false)
}

// TestWithoutPower loads all the same, and commits nothing.
func TestWithoutPower(t *testing.T) {
	for _, n := range []int{148, 149, 1000} {
		for _, first := range []half{wholeHalf(3, 4, "five"), {name: "zeros", bytes: zeros(74)}} {
			bytes := first.bytes + zeros(n-74)
			d := store.Of(bytes)
			d.Off()
			for range 2 {
				expectLoad(t, first.name, d, first.record, first.whole)
				expectCommit(t, first.name, d, 1, "x", api.ErrDown)
				expectBoot(t, first.name, d, api.Record{}, api.ErrDown)
				expect(t, first.name, d, look{bytes: bytes})
			}
			d.On()
			r := api.Record{Seq: first.record.Seq + 1, Inc: first.record.Inc + 1, Data: first.record.Data}
			expectBoot(t, first.name, d, r, api.OK)
			expectLoad(t, first.name, d, r, true)
		}
	}
}

func TestNothingThere(t *testing.T) {
	for range 2 {
		expectLoad(t, "nil", nil, api.Record{}, false)
		for _, inc := range []uint16{0, 1, 65535} {
			for _, n := range []int{0, 1, 64} {
				expectCommit(t, "nil", nil, inc, longText(n), api.ErrArg)
			}
			for _, n := range []int{65, 256, 65536} {
				expectCommit(t, "nil", nil, inc, longText(n), api.ErrLong)
			}
		}
		expectBoot(t, "nil", nil, api.Record{}, api.ErrArg)
	}
	var zero store.Store
	expectLoad(t, "no bytes", &zero, api.Record{}, false)
	expectCommit(t, "no bytes", &zero, 1, "", api.ErrArg)
	expectBoot(t, "no bytes", &zero, api.Record{}, api.ErrArg)
}

// starts are stores with nothing, one record and two of them.
func starts() []half {
	nothing, old, middle, last := zeros(74), slotOf(api.Record{Seq: 6, Inc: 2, Data: "old"}), slotOf(api.Record{Seq: 7, Inc: 3, Data: longText(64)}), slotOf(api.Record{Seq: 8, Inc: 3, Data: "\x00\xff"})
	// Some by their mark, others by their length.
	hurt := brokenHalves()
	return []half{
		{name: "nothing", bytes: nothing + nothing}, {name: "broken ones", bytes: hurt[0].bytes + hurt[23].bytes}, {name: "255", bytes: strings.Repeat("\xff", 148)},
		{name: "the first one", bytes: old + nothing}, {name: "the second one", bytes: nothing + old},
		{name: "the first one, the other broken", bytes: middle + hurt[1].bytes}, {name: "the second one, the other broken", bytes: hurt[22].bytes + middle},
		{name: "the first one newer", bytes: last + middle}, {name: "the second one newer", bytes: middle + last}, {name: "equal ones", bytes: old + old},
		{name: "equal ones, but for Data", bytes: slotOf(api.Record{Seq: 7, Inc: 3, Data: "other"}) + middle},
		{name: "with more behind it", bytes: middle + last + longText(30)},
	}
}

// TestTornAtEachByte holds P7.2: power is lost behind each number of bytes; behind it there is the record that was, or the new one.
func TestTornAtEachByte(t *testing.T) {
	for _, start := range starts() {
		for n := range 78 {
			for _, boots := range []bool{false, true} {
				for _, then := range []bool{false, true} {
					what := start.name + ", torn behind " + strconv.Itoa(n)
					p := newPair(start.bytes)
					was, wasOK := p.w.load()
					next := api.Record{Seq: was.Seq + 1, Inc: 11, Data: "\xffthe new one\x00"}
					p.arm(n)
					if boots {
						next.Inc, next.Data = was.Inc+1, was.Data
						p.boot(t, what)
					} else {
						p.commit(t, what, next.Inc, next.Data)
					}
					p.off()
					if n >= 75 {
						was, wasOK = next, true
					}
					expectLoad(t, what, p.d, was, wasOK)
					p.on()
					expectLoad(t, what+", power", p.d, was, wasOK)
					again(t, what, p, was, then)
				}
			}
		}
	}
}

// again commits, or boots, with power anew.
func again(t *testing.T, what string, p pair, was api.Record, boots bool) {
	t.Helper()
	next := api.Record{Seq: was.Seq + 1, Inc: 12, Data: longText(40)}
	if boots {
		next.Inc, next.Data = was.Inc+1, was.Data
		expectBoot(t, what+", again", p.d, next, api.OK)
	} else {
		expectCommit(t, what+", again", p.d, next.Inc, next.Data, api.OK)
	}
	expectLoad(t, what+", again", p.d, next, true)
}

// TestTornWrites names what stands in the slot behind each number of bytes: no mark ahead of its last byte.
func TestTornWrites(t *testing.T) {
	old, made := slotOf(api.Record{Seq: 6, Inc: 2, Data: "old"}), slotOf(api.Record{Seq: 8, Inc: 9, Data: longText(64)})
	newest := slotOf(api.Record{Seq: 7, Inc: 3, Data: "newest"})
	for n := range 76 {
		want := old
		switch {
		case n == 75:
			want = made
		case n > 0:
			want = "\x00" + made[1:n] + old[n:]
		}
		d := store.Of(old + newest)
		d.Arm(n)
		e := api.ErrDown
		if n == 75 {
			e = api.OK
		}
		expectCommit(t, strconv.Itoa(n), d, 9, longText(64), e)
		expect(t, strconv.Itoa(n), d, look{bytes: want + newest, power: n == 75, armed: n == 75, wrote: n})
		d = store.Of(newest + old)
		d.Arm(n)
		expectCommit(t, strconv.Itoa(n), d, 9, longText(64), e)
		expect(t, strconv.Itoa(n), d, look{bytes: newest + want, power: n == 75, armed: n == 75, wrote: n})
	}
}

// TestTornOneBehindTheOther tears at all pairs of numbers, a Commit or a Boot behind a Commit or a Boot.
func TestTornOneBehindTheOther(t *testing.T) {
	kept := starts()
	for _, start := range []half{kept[0], kept[3], kept[7], kept[8]} {
		for first := range 76 {
			for second := range 76 {
				p := newPair(start.bytes)
				for i, n := range []int{first, second} {
					p.arm(n)
					if (first+second+i)%2 == 0 {
						p.commit(t, "Commit", uint16(n), longText(n%65))
					} else {
						p.boot(t, "Boot")
					}
					p.off()
					p.same(t, "Off")
					p.on()
				}
				p.commit(t, "whole", 99, "whole")
				p.boot(t, "whole")
				if r, ok := Load(p.d); !ok || r.Data != "whole" || r.Inc != 100 {
					t.Errorf("%d, %d: %s", first, second, tell(r))
				}
			}
		}
	}
}

// TestManyTornOnes tears 75 of them, one behind the other, and not one is seen.
func TestManyTornOnes(t *testing.T) {
	for _, start := range starts() {
		p := newPair(start.bytes)
		was, ok := p.w.load()
		for n := range 75 {
			for _, at := range []int{n, 74 - n} {
				p.arm(at)
				expectCommit(t, start.name, p.d, 500, longText(at%65), api.ErrDown)
				expectLoad(t, start.name, p.d, was, ok)
				p.on()
				p.d.Arm(at)
				expectBoot(t, start.name, p.d, api.Record{}, api.ErrDown)
				expectLoad(t, start.name, p.d, was, ok)
				p.d.On()
			}
		}
		again(t, start.name, pair{d: p.d}, was, true)
	}
}

// pick tells numbers from a short rule, so that a run can be had once more.
type pick uint32

func (k *pick) below(n int) int {
	*k = *k*1664525 + 1013904223
	return int(*k>>8) % n
}

func (k *pick) text(longest int) string {
	bytes := make([]byte, k.below(longest+1))
	for i := range bytes {
		bytes[i] = byte(k.below(256))
		if k.below(4) == 0 {
			bytes[i] = 255 * byte(k.below(2))
		}
	}
	return string(bytes)
}

// TestManyCommitsAndBoots holds all bytes behind each one.
func TestManyCommitsAndBoots(t *testing.T) {
	for run := range 40 {
		k := pick(run)
		p := newPair(zeros(148 + k.below(3)))
		for i := range 120 {
			what := "run " + strconv.Itoa(run) + ", step " + strconv.Itoa(i)
			if k.below(3) == 0 {
				p.boot(t, what)
			} else {
				p.commit(t, what, uint16(k.below(65535)), k.text(64))
			}
			if r, ok := Load(p.d); !ok || r.Seq != uint32(i+1) || p.d.Wrote() != 75*(i+1) {
				t.Fatalf("%s: %s, %v, wrote %d", what, tell(r), ok, p.d.Wrote())
			}
		}
	}
}

// TestLongRunsOfCalls loses power between, in the middle, and not, and commits what is too long, too.
func TestLongRunsOfCalls(t *testing.T) {
	for run := range 60 {
		k := pick(1000 + run)
		p := newPair(starts()[k.below(len(starts()))].bytes)
		for i := range 150 {
			what := "run " + strconv.Itoa(run) + ", step " + strconv.Itoa(i)
			switch k.below(10) {
			case 0:
				p.off()
			case 1, 2, 3:
				p.on()
			case 4:
				p.arm(k.below(160))
			case 5, 6:
				p.boot(t, what)
			default:
				p.commit(t, what, uint16(k.below(65536)), k.text(66))
			}
			p.same(t, what)
		}
	}
}

// TestMemoryIsItsOwn holds R4: what was told stays, whatever is done behind it, and what was handed in.
func TestMemoryIsItsOwn(t *testing.T) {
	handed := []byte("handed in")
	data := string(handed)
	d := store.New(148)
	expectCommit(t, "first", d, 1, data, api.OK)
	loaded, _ := Load(d)
	booted, _ := Boot(d)
	copied := strings.Clone(booted.Data)
	handed[0] = '!'
	for i := range 10 {
		expectCommit(t, "behind it", d, 9, strings.Repeat("#", i), api.OK)
	}
	d.Write(0, zeros(148))
	if data != "handed in" || loaded != (api.Record{Seq: 1, Inc: 1, Data: "handed in"}) || booted.Data != copied || booted != (api.Record{Seq: 2, Inc: 2, Data: "handed in"}) {
		t.Errorf("%q, %s, %s", data, tell(loaded), tell(booted))
	}
	expectLoad(t, "wiped", d, api.Record{}, false)
	expectBoot(t, "wiped", d, api.Record{Seq: 1, Inc: 1}, api.OK)
}

// TestStoresDontTouchOneAnother holds R7.
func TestStoresDontTouchOneAnother(t *testing.T) {
	first, second := store.New(148), store.New(148)
	expectBoot(t, "first", first, api.Record{Seq: 1, Inc: 1}, api.OK)
	expectCommit(t, "first", first, 1, "a", api.OK)
	expectLoad(t, "second", second, api.Record{}, false)
	expectBoot(t, "second", second, api.Record{Seq: 1, Inc: 1}, api.OK)
	expectLoad(t, "first", first, api.Record{Seq: 2, Inc: 1, Data: "a"}, true)
}

// TestAnyBytes holds P0: whatever bytes a store has, each call ends, and answers as its twin does.
func TestAnyBytes(t *testing.T) {
	for run := range 4000 {
		k := pick(50000 + run)
		bytes := make([]byte, 148+k.below(2))
		for i := range bytes {
			bytes[i] = byte(k.below(256))
		}
		for at := 0; at < 148; at += 74 {
			p := parts{mark: 0xA5, seq: uint32(k.below(3)) - 2, inc: uint16(k.below(3)) - 2, length: byte(k.below(67)), filled: string(bytes[at+8 : at+72])}
			if k.below(2) == 0 {
				p.filled = p.filled[:min(p.length, 64)] + zeros(64-int(min(p.length, 64)))
			}
			if k.below(3) != 0 {
				copy(bytes[at:], p.bytes())
			}
		}
		for _, n := range []int{-1, 0, 1, 40, 74, 75} {
			for _, boots := range []bool{false, true} {
				p := newPair(string(bytes))
				if n >= 0 {
					p.arm(n)
				}
				p.same(t, "ahead of it")
				if boots {
					p.boot(t, "any bytes")
				} else {
					p.commit(t, "any bytes", uint16(run), k.text(65))
				}
			}
		}
	}
}

// TestEveryCallEnds holds P0 of all sizes that a store is asked for, and all lengths of Data beside them.
func TestEveryCallEnds(t *testing.T) {
	for _, size := range []int{math.MinInt, -1, 0, 1, 73, 74, 75, 147, 148, 149, 999, 1000, 1001, math.MaxInt} {
		for _, n := range []int{0, 1, 63, 64, 65, 255, 256, 1000} {
			for _, inc := range []uint16{0, 1, 65535} {
				d := store.New(size)
				want := api.OK
				switch {
				case n > 64:
					want = api.ErrLong
				case d.Len() < 148:
					want = api.ErrArg
				}
				expectCommit(t, strconv.Itoa(size), d, inc, longText(n), want)
				_, ok := Load(d)
				if ok != (want == api.OK) {
					t.Errorf("%d: Load tells %v", size, ok)
				}
			}
		}
	}
}
