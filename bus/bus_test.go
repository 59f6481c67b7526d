package bus

import (
	"math"
	"slices"
	"strconv"
	"strings"
	"testing"

	"fugleman/api"
)

// setOf tells the set of those addresses, bit by bit.
func setOf(list ...int) api.Set {
	s := api.Set(0)
	for _, a := range list {
		s |= 1 << a
	}
	return s
}

// but tells all addresses without those.
func but(list ...int) api.Set {
	return 0xFFFFFFFF &^ setOf(list...)
}

// noAddresses are numbers that no address is, many of them with an address in their lowest bits.
func noAddresses() []int {
	return []int{
		math.MinInt, math.MinInt + 1, math.MinInt + 5, -1<<32 + 5, -1 << 32, -1<<31 + 5, -1 << 31, -65536, -256, -64, -33, -32, -31, -27, -5, -2, -1,
		32, 33, 37, 63, 64, 69, 128, 255, 256, 261, 65536, 65541, 1<<31 - 1, 1 << 31, 1<<32 - 1, 1 << 32, 1<<32 + 5, 1 << 62, math.MaxInt - 1, math.MaxInt,
	}
}

func addresses() []int {
	list := []int{}
	for a := range 32 {
		list = append(list, a)
	}
	return list
}

// noPlaces are places of which no piece is, when n pieces are under way.
func noPlaces(n int) []int {
	return []int{
		math.MinInt, math.MinInt + 1, -1<<32 + 1, -1 << 32, -1 << 31, -256, -64, -63, -2, -1,
		n, n + 1, n + 2, n + 64, n + 256, 1<<31 - 1, 1 << 31, 1 << 32, 1<<32 + 1, math.MaxInt - 1, math.MaxInt,
	}
}

// ends are numbers far from all places, bits and bytes.
func ends() []int {
	return []int{math.MinInt, math.MinInt + 1, -1 << 32, -1 << 31, 1<<31 - 1, 1 << 32, 1<<32 + 1, math.MaxInt - 16, math.MaxInt - 1, math.MaxInt}
}

// under tells all pieces under way.
func under(t *testing.T, b *Bus) []api.Piece {
	t.Helper()
	list := []api.Piece{}
	for k := range b.Len() {
		p, ok := b.Piece(k)
		if !ok {
			t.Fatalf("Piece(%d) of %d: there is none", k, b.Len())
		}
		list = append(list, p)
	}
	if p, ok := b.Piece(len(list)); ok || p != (api.Piece{}) {
		t.Fatalf("Piece(%d) of %d: %s, %v", len(list), len(list), show(p), ok)
	}
	return list
}

// show tells pieces as a text, since their bytes may be any.
func show(list ...api.Piece) string {
	text := ""
	for _, p := range list {
		text += "[" + strconv.Quote(p.Bytes) + " of " + strconv.Itoa(p.Src) + " to " + strconv.FormatUint(uint64(p.To), 16)
		if p.Hurt {
			text += " hurt"
		}
		text += "]"
	}
	return text
}

func expect(t *testing.T, what string, b *Bus, want ...api.Piece) {
	t.Helper()
	if got := under(t, b); !slices.Equal(got, want) {
		t.Errorf("%s:\n got %s\nwant %s", what, show(got...), show(want...))
	}
}

func errno(t *testing.T, what string, got, want api.Errno) {
	t.Helper()
	if got != want {
		t.Errorf("%s: %d, want %d", what, got, want)
	}
}

func send(t *testing.T, b *Bus, src int, s string, want api.Errno) {
	t.Helper()
	if e := b.Send(src, s); e != want {
		t.Errorf("Send(%d, %q) = %d, want %d", src, s, e, want)
	}
}

func deliver(t *testing.T, b *Bus, k, to int, want string, wantE api.Errno) {
	t.Helper()
	if s, e := b.Deliver(k, to); s != want || e != wantE {
		t.Errorf("Deliver(%d, %d) = %q, %d, want %q, %d", k, to, s, e, want, wantE)
	}
}

// of tells a bus with those texts under way, the first one sent by 0, the next one by 1, and so on.
func of(t *testing.T, texts ...string) *Bus {
	t.Helper()
	b := New()
	for src, s := range texts {
		send(t, b, src, s, api.OK)
	}
	return b
}

// sent is the piece of a text on its way from src to all others.
func sent(src int, s string) api.Piece {
	return api.Piece{Bytes: s, Src: src, To: but(src)}
}

// hurt is likewise, but hurt.
func hurt(src int, s string) api.Piece {
	return api.Piece{Bytes: s, Src: src, To: but(src), Hurt: true}
}

// full tells a bus with as many pieces as may be, each of one byte, its place, and sent by its place's rest by 32.
func full(t *testing.T) (*Bus, []api.Piece) {
	t.Helper()
	b, list := New(), []api.Piece{}
	for k := range 64 {
		s := string([]byte{byte(k)})
		send(t, b, k%32, s, api.OK)
		list = append(list, sent(k%32, s))
	}
	return b, list
}

func TestNew(t *testing.T) {
	b := New()
	if b == nil {
		t.Fatal("New: nil")
	}
	expect(t, "New", b)
	if b.Len() != 0 || b.Fault() {
		t.Errorf("New: Len %d, Fault %v", b.Len(), b.Fault())
	}
}

func TestTheExample(t *testing.T) {
	b := New()
	send(t, b, 1, "ab", api.OK)
	deliver(t, b, 0, 2, "ab", api.OK)
	deliver(t, b, 0, 2, "", api.ErrArg)
	expect(t, "behind it", b, api.Piece{Bytes: "ab", Src: 1, To: but(1, 2)})
}

func TestSendFromEachAddress(t *testing.T) {
	b, want := New(), []api.Piece{}
	for _, src := range addresses() {
		s := "from " + strconv.Itoa(src)
		send(t, b, src, s, api.OK)
		want = append(want, api.Piece{Bytes: s, Src: src, To: but(src)})
		expect(t, s, b, want...)
	}
	for _, src := range noAddresses() {
		send(t, b, src, "a", api.ErrArg)
		send(t, b, src, "", api.ErrArg)
		send(t, b, src, strings.Repeat("a", 256), api.ErrArg)
	}
	expect(t, "from what is no address", b, want...)
	if b.Fault() {
		t.Error("Fault, and there is place")
	}
}

func TestSendOfEachLength(t *testing.T) {
	for n := range 600 {
		b, s := New(), strings.Repeat("x", n)
		if n < 1 || n > 255 {
			send(t, b, 4, s, api.ErrArg)
			expect(t, "refused", b)
			continue
		}
		send(t, b, 4, s, api.OK)
		expect(t, "sent", b, sent(4, s))
		deliver(t, b, 0, 31, s, api.OK)
	}
	for _, n := range []int{1000, 4000, 65535, 65536, 65537, 1<<20 + 1} {
		b := New()
		if e := b.Send(4, strings.Repeat("x", n)); e != api.ErrArg || b.Len() != 0 {
			t.Errorf("Send of %d bytes: %d", n, e)
		}
	}
}

// TestSendOfAnyBytes: texts are any bytes, and none of them is taken for anything else.
func TestSendOfAnyBytes(t *testing.T) {
	every := make([]byte, 255)
	for i := range every {
		every[i] = byte(255 - i)
	}
	texts := []string{"\x00", "\x00\x00\x00", "\xff", "\xff\xc3\x28\x80", "äöü", "\n\r\t", string(every), "a\x00b"}
	b, want := New(), []api.Piece{}
	for src, s := range texts {
		send(t, b, src, s, api.OK)
		want = append(want, sent(src, s))
	}
	expect(t, "any bytes", b, want...)
	for k, s := range texts {
		deliver(t, b, k, 20, s, api.OK)
	}
}

// TestTheSameSentTwice are two pieces, each on its own.
func TestTheSameSentTwice(t *testing.T) {
	b := New()
	send(t, b, 3, "a", api.OK)
	send(t, b, 3, "a", api.OK)
	deliver(t, b, 0, 5, "a", api.OK)
	expect(t, "two pieces", b, api.Piece{Bytes: "a", Src: 3, To: but(3, 5)}, sent(3, "a"))
}

func TestPieceOfEachPlace(t *testing.T) {
	b := of(t, "a", "bc", "def")
	for k, want := range []api.Piece{sent(0, "a"), sent(1, "bc"), sent(2, "def")} {
		if p, ok := b.Piece(k); !ok || p != want {
			t.Errorf("Piece(%d) = %s, %v", k, show(p), ok)
		}
	}
	for _, k := range noPlaces(3) {
		if p, ok := b.Piece(k); ok || p != (api.Piece{}) {
			t.Errorf("Piece(%d) = %s, %v", k, show(p), ok)
		}
	}
}

func TestLen(t *testing.T) {
	b := New()
	for n := range 64 {
		if got := b.Len(); got != n {
			t.Errorf("Len = %d, want %d", got, n)
		}
		send(t, b, n%32, "x", api.OK)
	}
	for n := 64; n > 0; n-- {
		if got := b.Len(); got != n {
			t.Errorf("Len = %d, want %d", got, n)
		}
		errno(t, "Drop", b.Drop(n/2), api.OK)
	}
	expect(t, "all are gone", b)
}

// either is Deliver or Lose.
type either struct {
	name string
	do   func(b *Bus, k, to int) (string, api.Errno)
	// tells is whether it tells the bytes.
	tells bool
}

func bothWays() []either {
	return []either{
		{"Deliver", func(b *Bus, k, to int) (string, api.Errno) { return b.Deliver(k, to) }, true},
		{"Lose", func(b *Bus, k, to int) (string, api.Errno) { return "", b.Lose(k, to) }, false},
	}
}

// come does it, and holds what it answers against the bytes that are told, or that error.
func (w either) come(t *testing.T, b *Bus, k, to int, bytes string, want api.Errno) {
	t.Helper()
	if !w.tells || want != api.OK {
		bytes = ""
	}
	if s, e := w.do(b, k, to); s != bytes || e != want {
		t.Errorf("%s(%d, %d) = %q, %d, want %q, %d", w.name, k, to, s, e, bytes, want)
	}
}

func TestDeliverAndLoseToEachAddress(t *testing.T) {
	for _, w := range bothWays() {
		for _, src := range addresses() {
			for _, to := range addresses() {
				b := New()
				send(t, b, src, "abc", api.OK)
				if to == src {
					w.come(t, b, 0, to, "", api.ErrArg)
					expect(t, w.name+" to who sent it", b, sent(src, "abc"))
					continue
				}
				w.come(t, b, 0, to, "abc", api.OK)
				left := api.Piece{Bytes: "abc", Src: src, To: but(src, to)}
				expect(t, w.name, b, left)
				for _, again := range bothWays() {
					again.come(t, b, 0, to, "", api.ErrArg)
				}
				expect(t, w.name+" once more", b, left)
			}
		}
	}
}

func TestDeliverAndLoseToNoAddress(t *testing.T) {
	for _, w := range bothWays() {
		b := of(t, "abc", "de")
		for _, to := range noAddresses() {
			w.come(t, b, 0, to, "", api.ErrArg)
			w.come(t, b, 1, to, "", api.ErrArg)
		}
		expect(t, w.name+" to no address", b, sent(0, "abc"), sent(1, "de"))
	}
}

func TestDeliverAndLoseOfNoPiece(t *testing.T) {
	for _, w := range bothWays() {
		for _, texts := range [][]string{{}, {"a"}, {"a", "b", "c"}} {
			b := of(t, texts...)
			before := under(t, b)
			for _, k := range noPlaces(len(texts)) {
				for _, to := range append(addresses(), noAddresses()...) {
					w.come(t, b, k, to, "", api.ErrArg)
				}
			}
			expect(t, w.name+" of no piece", b, before...)
		}
	}
}

// TestTheLastThatItWasToComeTo ends a piece, first, last or between, by Deliver, by Lose, and by both mixed.
func TestTheLastThatItWasToComeTo(t *testing.T) {
	ways := bothWays()
	for _, mix := range []struct {
		name string
		pick func(i int) either
	}{
		{"Deliver", func(i int) either { return ways[0] }},
		{"Lose", func(i int) either { return ways[1] }},
		{"Lose and Deliver", func(i int) either { return ways[i%2] }},
		{"Lose, and Deliver at last", func(i int) either { return ways[min(1, 30-i)] }},
		{"Deliver, and Lose at last", func(i int) either { return ways[i/30] }},
	} {
		for place := range 3 {
			texts := []string{"abc", "de", "f"}
			b := of(t, texts...)
			for i := range 31 {
				to := (place + 31 - i) % 32
				if n := b.Len(); n != 3 {
					t.Fatalf("%s of the piece %d to %d of 31: %d pieces", mix.name, place, i, n)
				}
				mix.pick(i).come(t, b, place, to, texts[place], api.OK)
			}
			all := []api.Piece{sent(0, "abc"), sent(1, "de"), sent(2, "f")}
			expect(t, mix.name+": gone", b, slices.Delete(all, place, place+1)...)
		}
	}
}

// TestBehindWhatIsGone: the others are one place further ahead, and go on where they were.
func TestBehindWhatIsGone(t *testing.T) {
	b := of(t, "a", "b", "c")
	errno(t, "Lose", b.Lose(2, 9), api.OK)
	for to := 1; to < 32; to++ {
		deliver(t, b, 0, to, "a", api.OK)
	}
	deliver(t, b, 0, 9, "b", api.OK)
	deliver(t, b, 1, 9, "", api.ErrArg)
	deliver(t, b, 1, 8, "c", api.OK)
	deliver(t, b, 2, 8, "", api.ErrArg)
	send(t, b, 31, "d", api.OK)
	expect(t, "one more, last", b, api.Piece{Bytes: "b", Src: 1, To: but(1, 9)}, api.Piece{Bytes: "c", Src: 2, To: but(2, 8, 9)}, sent(31, "d"))
}

func TestDrop(t *testing.T) {
	for _, c := range []struct {
		name string
		k    int
		want []api.Piece
	}{
		{"the first", 0, []api.Piece{sent(1, "b"), sent(2, "c"), sent(3, "d")}},
		{"the second", 1, []api.Piece{sent(0, "a"), sent(2, "c"), sent(3, "d")}},
		{"the third", 2, []api.Piece{sent(0, "a"), sent(1, "b"), sent(3, "d")}},
		{"the last", 3, []api.Piece{sent(0, "a"), sent(1, "b"), sent(2, "c")}},
	} {
		b := of(t, "a", "b", "c", "d")
		errno(t, c.name, b.Drop(c.k), api.OK)
		expect(t, c.name, b, c.want...)
		errno(t, "Drop of the place behind the last", b.Drop(3), api.ErrArg)
		send(t, b, 4, "e", api.OK)
		expect(t, c.name+", and one more", b, append(c.want, sent(4, "e"))...)
	}
	b := of(t, "a", "b", "c")
	for _, k := range noPlaces(3) {
		errno(t, "Drop of no piece", b.Drop(k), api.ErrArg)
	}
	expect(t, "Drop of no piece", b, sent(0, "a"), sent(1, "b"), sent(2, "c"))
	for range 3 {
		errno(t, "Drop", b.Drop(0), api.OK)
	}
	for _, k := range noPlaces(0) {
		errno(t, "Drop of nothing", b.Drop(k), api.ErrArg)
	}
	expect(t, "nothing is under way", b)
	if b.Fault() {
		t.Error("Drop set the fault")
	}
}

func TestDropOfWhatCameToSomeAndOfWhatIsHurt(t *testing.T) {
	b := of(t, "abc", "de")
	deliver(t, b, 0, 7, "abc", api.OK)
	errno(t, "Burst", b.Burst(1, 0, 0x8000), api.OK)
	errno(t, "Drop", b.Drop(0), api.OK)
	expect(t, "the hurt one is left", b, hurt(1, "\xe4e"))
	errno(t, "Drop", b.Drop(0), api.OK)
	expect(t, "none is left", b)
	send(t, b, 5, "abc", api.OK)
	expect(t, "sent behind it", b, sent(5, "abc"))
}

func TestTwice(t *testing.T) {
	for k, s := range []string{"a", "b", "c"} {
		b := of(t, "a", "b", "c")
		errno(t, "Twice", b.Twice(k), api.OK)
		expect(t, "Twice", b, sent(0, "a"), sent(1, "b"), sent(2, "c"), sent(k, s))
	}
	b := of(t, "a", "b", "c")
	for _, k := range noPlaces(3) {
		errno(t, "Twice of no piece", b.Twice(k), api.ErrArg)
	}
	expect(t, "Twice of no piece", b, sent(0, "a"), sent(1, "b"), sent(2, "c"))
	for _, k := range noPlaces(0) {
		errno(t, "Twice of nothing", New().Twice(k), api.ErrArg)
	}
}

// TestTwiceOfOneThatCameToSome: the twin is still to come to the same ones, and from then on each goes its own way.
func TestTwiceOfOneThatCameToSome(t *testing.T) {
	b := of(t, "ab", "cd")
	deliver(t, b, 0, 5, "ab", api.OK)
	errno(t, "Lose", b.Lose(0, 6), api.OK)
	errno(t, "Twice", b.Twice(0), api.OK)
	some := api.Piece{Bytes: "ab", Src: 0, To: but(0, 5, 6)}
	expect(t, "doubled", b, some, sent(1, "cd"), some)
	for _, to := range []int{0, 5, 6} {
		deliver(t, b, 2, to, "", api.ErrArg)
		errno(t, "Lose", b.Lose(2, to), api.ErrArg)
	}
	deliver(t, b, 2, 7, "ab", api.OK)
	deliver(t, b, 0, 8, "ab", api.OK)
	expect(t, "each on its own", b, api.Piece{Bytes: "ab", Src: 0, To: but(0, 5, 6, 8)}, sent(1, "cd"), api.Piece{Bytes: "ab", Src: 0, To: but(0, 5, 6, 7)})
	errno(t, "Burst of the twin", b.Burst(2, 7, 0x8000), api.OK)
	errno(t, "Cut of the first", b.Cut(0, 1), api.OK)
	expect(t, "each hurt on its own", b,
		api.Piece{Bytes: "a", Src: 0, To: but(0, 5, 6, 8), Hurt: true}, sent(1, "cd"), api.Piece{Bytes: "`b", Src: 0, To: but(0, 5, 6, 7), Hurt: true})
	errno(t, "Drop", b.Drop(0), api.OK)
	expect(t, "the twin stays", b, sent(1, "cd"), api.Piece{Bytes: "`b", Src: 0, To: but(0, 5, 6, 7), Hurt: true})
}

func TestTwiceOfOneToComeToOneAlone(t *testing.T) {
	b := New()
	send(t, b, 31, "z", api.OK)
	for to := range 30 {
		errno(t, "Lose", b.Lose(0, to), api.OK)
	}
	errno(t, "Twice", b.Twice(0), api.OK)
	last := api.Piece{Bytes: "z", Src: 31, To: setOf(30)}
	expect(t, "doubled", b, last, last)
	deliver(t, b, 1, 30, "z", api.OK)
	expect(t, "one is left", b, last)
	deliver(t, b, 0, 30, "z", api.OK)
	expect(t, "none is left", b)
}

// TestTwiceOfOneThatWasHurt: the twin was hurt too, and isn't hurt once more.
func TestTwiceOfOneThatWasHurt(t *testing.T) {
	b := of(t, "abc", "abc")
	errno(t, "Burst", b.Burst(0, 23, 0x8000), api.OK)
	errno(t, "Cut", b.Cut(1, 2), api.OK)
	errno(t, "Twice", b.Twice(0), api.OK)
	errno(t, "Twice", b.Twice(1), api.OK)
	errno(t, "Twice of a twin", b.Twice(2), api.OK)
	want := []api.Piece{hurt(0, "abb"), hurt(1, "a"), hurt(0, "abb"), hurt(1, "a"), hurt(0, "abb")}
	expect(t, "doubled", b, want...)
	for k := range 5 {
		errno(t, "Burst", b.Burst(k, 0, 0xFFFF), api.ErrKind)
		errno(t, "Burst of nothing", b.Burst(k, 0, 0), api.ErrKind)
		errno(t, "Cut", b.Cut(k, 1), api.ErrKind)
	}
	expect(t, "once alone", b, want...)
	deliver(t, b, 4, 9, "abb", api.OK)
	deliver(t, b, 3, 9, "a", api.OK)
}

func TestBurst(t *testing.T) {
	for _, c := range []struct {
		name    string
		at      int
		pattern uint16
		want    string
	}{
		{"the first bit", 0, 0x8000, "\x80\x00\x00"},
		{"the second bit", 1, 0x8000, "\x40\x00\x00"},
		{"the second bit, by the pattern's second bit", 0, 0x4000, "\x40\x00\x00"},
		{"the last bit", 23, 0x8000, "\x00\x00\x01"},
		{"the last bit, and what lies behind it", 23, 0xFFFF, "\x00\x00\x01"},
		{"what lies behind it alone", 23, 0x7FFF, "\x00\x00\x00"},
		{"sixteen bits", 0, 0xFFFF, "\xff\xff\x00"},
		{"sixteen bits at the end", 8, 0xFFFF, "\x00\xff\xff"},
		{"sixteen bits over three bytes", 4, 0xFFFF, "\x0f\xff\xf0"},
		{"over the end", 9, 0xFFFF, "\x00\x7f\xff"},
		{"both ends of a pattern", 4, 0x8001, "\x08\x00\x10"},
		{"a pattern in words", 0, 0x1234, "\x12\x34\x00"},
		{"pattern 0", 0, 0, "\x00\x00\x00"},
		{"pattern 0 beyond", 24, 0, "\x00\x00\x00"},
		{"just beyond", 24, 0xFFFF, "\x00\x00\x00"},
		{"one more", 25, 0xFFFF, "\x00\x00\x00"},
		{"just ahead", -1, 0xFFFF, "\x00\x00\x00"},
		{"sixteen ahead", -16, 0xFFFF, "\x00\x00\x00"},
		{"a multiple of 256 and of 8", 256, 0xFFFF, "\x00\x00\x00"},
		{"the least number", math.MinInt, 0xFFFF, "\x00\x00\x00"},
		{"the greatest number", math.MaxInt, 0xFFFF, "\x00\x00\x00"},
		{"four bytes and more", 1 << 32, 0xFFFF, "\x00\x00\x00"},
	} {
		b := of(t, "a", "\x00\x00\x00", "c")
		errno(t, c.name, b.Burst(1, c.at, c.pattern), api.OK)
		piece := api.Piece{Bytes: c.want, Src: 1, To: but(1), Hurt: c.want != "\x00\x00\x00"}
		expect(t, c.name, b, sent(0, "a"), piece, sent(2, "c"))
	}
}

// turned tells s with a burst, bit by bit.
func turned(s string, at int, pattern uint16) string {
	bits := bitsOf(s)
	for i := range 16 {
		if pattern&(0x8000>>i) == 0 || at < 0 || at >= len(bits) || at+i >= len(bits) {
			continue
		}
		bits[at+i] = !bits[at+i]
	}
	return textOf(bits)
}

func bitsOf(s string) []bool {
	bits := []bool{}
	for _, c := range []byte(s) {
		for bit := 7; bit >= 0; bit-- {
			bits = append(bits, c>>bit&1 == 1)
		}
	}
	return bits
}

func textOf(bits []bool) string {
	text := make([]byte, len(bits)/8)
	for i, bit := range bits {
		if bit {
			text[i/8] |= 0x80 >> (i % 8)
		}
	}
	return string(text)
}

func TestBurstAtAllPlaces(t *testing.T) {
	for _, s := range []string{"a", "\xff\x00", "abc", "\x00\x00\x00\x00", "hello, you there", strings.Repeat("\xa5\x3c\x0f", 85)} {
		for _, pattern := range []uint16{0, 1, 2, 0x100, 0x8000, 0x8001, 0x7FFE, 0xFFFF, 0x1021} {
			for at := -20; at < len(s)*8+20; at++ {
				b := of(t, s)
				want := turned(s, at, pattern)
				errno(t, "Burst", b.Burst(0, at, pattern), api.OK)
				piece := api.Piece{Bytes: want, To: but(0), Hurt: want != s}
				if p, _ := b.Piece(0); p != piece {
					t.Fatalf("Burst(0, %d, %04x) of %q: %s", at, pattern, s, show(p))
				}
			}
		}
	}
}

func TestBurstOfAllPatterns(t *testing.T) {
	const s = "\x5a\x00\xff"
	for pattern := range 65536 {
		for _, at := range []int{0, 3, 8, 15, 23} {
			b := New()
			b.Send(7, s)
			e := b.Burst(0, at, uint16(pattern))
			want := turned(s, at, uint16(pattern))
			if p, _ := b.Piece(0); e != api.OK || p != (api.Piece{Bytes: want, Src: 7, To: but(7), Hurt: want != s}) {
				t.Fatalf("Burst(0, %d, %04x) = %d: %s", at, pattern, e, show(p))
			}
		}
	}
}

// TestABurstThatTurnsNothing leaves the piece one that may still be hurt.
func TestABurstThatTurnsNothing(t *testing.T) {
	b := of(t, "abc")
	for range 3 {
		errno(t, "pattern 0", b.Burst(0, 0, 0), api.OK)
		errno(t, "beyond", b.Burst(0, 24, 0xFFFF), api.OK)
		errno(t, "ahead", b.Burst(0, -1, 0xFFFF), api.OK)
		errno(t, "over the end", b.Burst(0, 23, 0x7FFF), api.OK)
		for _, at := range ends() {
			errno(t, "far away", b.Burst(0, at, 0xFFFF), api.OK)
		}
		expect(t, "nothing is turned", b, sent(0, "abc"))
	}
	errno(t, "Twice", b.Twice(0), api.OK)
	errno(t, "Burst", b.Burst(0, 7, 0x8000), api.OK)
	errno(t, "Cut", b.Cut(1, 1), api.OK)
	expect(t, "hurt at last", b, hurt(0, "`bc"), hurt(0, "ab"))
}

func TestABurstDoesNotTurnBack(t *testing.T) {
	b := of(t, "abc")
	errno(t, "Burst", b.Burst(0, 7, 0x8000), api.OK)
	errno(t, "the same once more", b.Burst(0, 7, 0x8000), api.ErrKind)
	expect(t, "turned once", b, hurt(0, "`bc"))
}

func TestCut(t *testing.T) {
	for _, c := range []struct {
		s    string
		n    int
		e    api.Errno
		want string
	}{
		{"abcde", math.MinInt, api.ErrArg, "abcde"}, {"abcde", -5, api.ErrArg, "abcde"}, {"abcde", -1, api.ErrArg, "abcde"}, {"abcde", 0, api.ErrArg, "abcde"},
		{"abcde", 1, api.OK, "abcd"}, {"abcde", 2, api.OK, "abc"}, {"abcde", 3, api.OK, "ab"}, {"abcde", 4, api.OK, "a"},
		{"abcde", 5, api.ErrArg, "abcde"}, {"abcde", 6, api.ErrArg, "abcde"}, {"abcde", 256 + 1, api.ErrArg, "abcde"}, {"abcde", 1<<32 + 1, api.ErrArg, "abcde"},
		{"abcde", -1<<32 + 1, api.ErrArg, "abcde"}, {"abcde", math.MaxInt, api.ErrArg, "abcde"}, {"abcde", math.MinInt + 1, api.ErrArg, "abcde"},
		{"a", -1, api.ErrArg, "a"}, {"a", 0, api.ErrArg, "a"}, {"a", 1, api.ErrArg, "a"}, {"a", 2, api.ErrArg, "a"},
		{"ab", 1, api.OK, "a"}, {"ab", 2, api.ErrArg, "ab"}, {"aaaa", 3, api.OK, "a"}, {"\x00\x00", 1, api.OK, "\x00"},
	} {
		b := of(t, "x", c.s, "y")
		errno(t, "Cut of "+c.s+" by "+strconv.Itoa(c.n), b.Cut(1, c.n), c.e)
		expect(t, "Cut", b, sent(0, "x"), api.Piece{Bytes: c.want, Src: 1, To: but(1), Hurt: c.e == api.OK}, sent(2, "y"))
	}
}

func TestCutOfEachLengthByEachNumber(t *testing.T) {
	every := make([]byte, 255)
	for i := range every {
		every[i] = byte(i)
	}
	for _, size := range []int{1, 2, 3, 16, 64, 254, 255} {
		s := string(every[:size])
		for n := -3; n < size+3; n++ {
			b := New()
			b.Send(9, s)
			e := b.Cut(0, n)
			want, wantE := sent(9, s), api.ErrArg
			if 0 < n && n < size {
				want, wantE = hurt(9, s[:size-n]), api.OK
			}
			if p, _ := b.Piece(0); e != wantE || p != want {
				t.Fatalf("Cut by %d of %d bytes = %d: %s", n, size, e, show(p))
			}
		}
	}
}

// TestHurtOnceAlone hurts what was hurt, in all ways.
func TestHurtOnceAlone(t *testing.T) {
	for _, first := range []struct {
		name string
		do   func(b *Bus) api.Errno
		want string
	}{
		{"Burst", func(b *Bus) api.Errno { return b.Burst(1, 0, 0x8000) }, "\xe4ef"},
		{"Cut", func(b *Bus) api.Errno { return b.Cut(1, 1) }, "de"},
		{"Cut to one byte", func(b *Bus) api.Errno { return b.Cut(1, 2) }, "d"},
	} {
		b := of(t, "abc", "def", "ghi")
		errno(t, first.name, first.do(b), api.OK)
		want := []api.Piece{sent(0, "abc"), hurt(1, first.want), sent(2, "ghi")}
		for _, at := range append(ends(), -1, 0, 1, 7, 8, 15, 16, 23, 24) {
			for _, pattern := range []uint16{0, 1, 0x8000, 0xFFFF} {
				errno(t, first.name+", then Burst", b.Burst(1, at, pattern), api.ErrKind)
			}
		}
		for _, n := range append(ends(), -1, 0, 1, 2, 3, 4) {
			errno(t, first.name+", then Cut", b.Cut(1, n), api.ErrKind)
		}
		expect(t, first.name, b, want...)
		deliver(t, b, 1, 0, first.want, api.OK)
		errno(t, "behind Deliver", b.Burst(1, 0, 0x8000), api.ErrKind)
		errno(t, "Drop", b.Drop(0), api.OK)
		errno(t, "one place further ahead", b.Cut(0, 1), api.ErrKind)
		errno(t, "the one behind it", b.Cut(1, 1), api.OK)
		expect(t, first.name+", at last", b, api.Piece{Bytes: first.want, Src: 1, To: but(0, 1), Hurt: true}, hurt(2, "gh"))
	}
}

func TestHurtingOfNoPiece(t *testing.T) {
	for _, texts := range [][]string{{}, {"abc"}, {"abc", "def"}} {
		b := of(t, texts...)
		before := under(t, b)
		for _, k := range noPlaces(len(texts)) {
			for _, n := range append(ends(), -1, 0, 1, 2, 3) {
				errno(t, "Burst of no piece", b.Burst(k, n, 0xFFFF), api.ErrArg)
				errno(t, "Burst of no piece", b.Burst(k, n, 0), api.ErrArg)
				errno(t, "Cut of no piece", b.Cut(k, n), api.ErrArg)
			}
		}
		expect(t, "hurting of no piece", b, before...)
	}
}

// TestHurtAheadOfSomeAlone: who has had it had it whole, and the others get it hurt.
func TestHurtAheadOfSomeAlone(t *testing.T) {
	b := of(t, "abc", "abc")
	deliver(t, b, 0, 3, "abc", api.OK)
	deliver(t, b, 1, 3, "abc", api.OK)
	errno(t, "Burst", b.Burst(0, 6, 0xC000), api.OK)
	errno(t, "Cut", b.Cut(1, 2), api.OK)
	deliver(t, b, 0, 4, "bbc", api.OK)
	deliver(t, b, 1, 4, "a", api.OK)
	expect(t, "hurt between", b, api.Piece{Bytes: "bbc", To: but(0, 3, 4), Hurt: true}, api.Piece{Bytes: "a", Src: 1, To: but(1, 3, 4), Hurt: true})
}

func TestThe64thAndThe65th(t *testing.T) {
	for _, c := range []struct {
		name string
		more func(b *Bus) api.Errno
		last api.Piece
	}{
		{"Send", func(b *Bus) api.Errno { return b.Send(31, "z") }, sent(31, "z")},
		{"Twice of the first", func(b *Bus) api.Errno { return b.Twice(0) }, sent(0, "\x00")},
		{"Twice of the last", func(b *Bus) api.Errno { return b.Twice(b.Len() - 1) }, sent(30, "\x3e")},
	} {
		b, list := full(t)
		errno(t, "Drop of the last", b.Drop(63), api.OK)
		list = list[:63]
		expect(t, "63", b, list...)
		errno(t, c.name+" of the 64th", c.more(b), api.OK)
		list = append(list, c.last)
		if b.Fault() {
			t.Errorf("%s: Fault at 64", c.name)
		}
		for range 3 {
			expect(t, c.name, b, list...)
			errno(t, c.name+" of the 65th", c.more(b), api.ErrFull)
			if !b.Fault() {
				t.Errorf("%s: no Fault at 65", c.name)
			}
		}
	}
}

// TestTheFaultStays set, whatever is done: place again, another piece in it, none under way any more.
func TestTheFaultStays(t *testing.T) {
	for _, byTwice := range []bool{false, true} {
		b, list := full(t)
		if byTwice {
			errno(t, "Twice", b.Twice(5), api.ErrFull)
		} else {
			send(t, b, 5, "z", api.ErrFull)
		}
		for i, do := range []func() api.Errno{
			func() api.Errno { return b.Drop(0) },
			func() api.Errno { return b.Send(9, "new") },
			func() api.Errno { return b.Drop(0) },
			func() api.Errno { return b.Twice(0) },
			func() api.Errno { return b.Lose(0, 0) },
			func() api.Errno { return b.Burst(0, 0, 1) },
			func() api.Errno { return b.Cut(62, 2) },
		} {
			errno(t, "step "+strconv.Itoa(i), do(), api.OK)
			if !b.Fault() {
				t.Errorf("step %d: no Fault", i)
			}
		}
		if p, _ := b.Piece(62); p != hurt(9, "n") {
			t.Errorf("the 63rd: %s", show(p))
		}
		if p, _ := b.Piece(63); p != list[2] {
			t.Errorf("the 64th: %s", show(p))
		}
		for range 64 {
			errno(t, "Drop", b.Drop(0), api.OK)
		}
		expect(t, "none is left", b)
		send(t, b, 1, "a", api.OK)
		if !b.Fault() {
			t.Error("no Fault at last")
		}
	}
}

// TestPlaceAgain in each way in which a piece goes.
func TestPlaceAgain(t *testing.T) {
	for i, gone := range []func(b *Bus){
		func(b *Bus) { b.Drop(17) },
		func(b *Bus) {
			for to := range 32 {
				b.Deliver(17, to)
			}
		},
		func(b *Bus) {
			for to := range 32 {
				b.Lose(17, to)
			}
		},
	} {
		b, list := full(t)
		gone(b)
		// It goes with the address 31, the last one that is asked, so that the piece behind it isn't touched in its place.
		want := slices.Delete(list, 17, 18)
		expect(t, "way "+strconv.Itoa(i), b, want...)
		send(t, b, 2, "more", api.OK)
		want = append(want, sent(2, "more"))
		expect(t, "way "+strconv.Itoa(i)+", and one more", b, want...)
		if b.Fault() {
			t.Errorf("way %d: Fault", i)
		}
		send(t, b, 2, "one more", api.ErrFull)
		expect(t, "way "+strconv.Itoa(i)+", and full", b, want...)
		if !b.Fault() {
			t.Errorf("way %d: no Fault", i)
		}
	}
}

// TestWhichErrorComesFirst asks what more than one would do for.
func TestWhichErrorComesFirst(t *testing.T) {
	b, list := full(t)
	for _, src := range append(noAddresses(), -1, 32) {
		send(t, b, src, "a", api.ErrArg)
	}
	for _, src := range addresses() {
		send(t, b, src, "", api.ErrArg)
		send(t, b, src, strings.Repeat("a", 256), api.ErrArg)
	}
	for _, k := range noPlaces(64) {
		errno(t, "Twice of no piece, full", b.Twice(k), api.ErrArg)
	}
	if b.Fault() {
		t.Error("what may not be isn't dropped: no Fault")
	}
	errno(t, "Cut of one byte", b.Cut(0, 1), api.ErrArg)
	errno(t, "Burst", b.Burst(0, 0, 0x8000), api.OK)
	list[0] = hurt(0, "\x80")
	errno(t, "Cut of none, and hurt", b.Cut(0, 0), api.ErrKind)
	errno(t, "Cut of all, and hurt", b.Cut(0, 1), api.ErrKind)
	errno(t, "Cut by the least number, and hurt", b.Cut(0, math.MinInt), api.ErrKind)
	errno(t, "Burst of nothing, and hurt", b.Burst(0, -1, 0), api.ErrKind)
	errno(t, "Cut of no piece by none", b.Cut(64, 0), api.ErrArg)
	errno(t, "Twice of a hurt one, full", b.Twice(0), api.ErrFull)
	expect(t, "all as it was", b, list...)
	if !b.Fault() {
		t.Error("no Fault")
	}
}

// TestAnErrorChangesNothing but the fault, of a bus with all kinds of pieces on it.
func TestAnErrorChangesNothing(t *testing.T) {
	b := of(t, "abc", "d", "efg", "hi")
	deliver(t, b, 0, 4, "abc", api.OK)
	errno(t, "Burst", b.Burst(2, 5, 0x8000), api.OK)
	errno(t, "Cut", b.Cut(3, 1), api.OK)
	before := under(t, b)
	for name, e := range map[string]api.Errno{
		"Send from -1": b.Send(-1, "a"), "Send of nothing": b.Send(1, ""), "Send of too much": b.Send(1, strings.Repeat("a", 256)),
		"Lose to who had it": b.Lose(0, 4), "Lose to who sent it": b.Lose(0, 0), "Lose to 32": b.Lose(0, 32), "Lose of the 5th": b.Lose(4, 1),
		"Drop of the 5th": b.Drop(4), "Drop of -1": b.Drop(-1), "Twice of the 5th": b.Twice(4), "Twice of -1": b.Twice(-1),
		"Burst of the 5th": b.Burst(4, 0, 1), "Cut of the 5th": b.Cut(4, 1), "Cut by 0": b.Cut(0, 0), "Cut of all": b.Cut(0, 3), "Cut of one byte": b.Cut(1, 1),
	} {
		errno(t, name, e, api.ErrArg)
	}
	errno(t, "Burst of a hurt one", b.Burst(2, 5, 0x8000), api.ErrKind)
	errno(t, "Cut of a hurt one", b.Cut(3, 1), api.ErrKind)
	deliver(t, b, 0, 4, "", api.ErrArg)
	deliver(t, b, 4, 4, "", api.ErrArg)
	expect(t, "behind errors", b, before...)
	if b.Fault() {
		t.Error("Fault")
	}
}

// twin goes by the words of the chapter another way: whatever was sent stays in it, and what is gone is what waits for nobody any more.
type twin struct {
	ever  []*parcel
	fault bool
}

// parcel is a piece, bit by bit, with a mark for each address that it is still to come to.
type parcel struct {
	bits  []bool
	src   int
	waits [32]bool
	hurt  bool
}

func (p *parcel) piece() api.Piece {
	piece := api.Piece{Bytes: textOf(p.bits), Src: p.src, Hurt: p.hurt}
	for a, waits := range p.waits {
		if waits {
			piece.To += 1 << a
		}
	}
	return piece
}

func (w *twin) under() []*parcel {
	list := []*parcel{}
	for _, p := range w.ever {
		if p.waits != [32]bool{} {
			list = append(list, p)
		}
	}
	return list
}

func (w *twin) kth(k int) *parcel {
	for i, p := range w.under() {
		if i == k {
			return p
		}
	}
	return nil
}

func (w *twin) add(p parcel) api.Errno {
	if len(w.under()) >= 64 {
		w.fault = true
		return api.ErrFull
	}
	w.ever = append(w.ever, &p)
	return api.OK
}

func (w *twin) send(src int, s string) api.Errno {
	p := parcel{bits: bitsOf(s), src: src}
	known := false
	for a := range 32 {
		p.waits[a] = a != src
		known = known || a == src
	}
	if !known || s == "" || len(s) >= 256 {
		return api.ErrArg
	}
	return w.add(p)
}

func (w *twin) deliver(k, to int) (string, api.Errno) {
	p := w.kth(k)
	if p == nil || !slices.Contains(addresses(), to) || !p.waits[to] {
		return "", api.ErrArg
	}
	p.waits[to] = false
	return textOf(p.bits), api.OK
}

func (w *twin) lose(k, to int) api.Errno {
	_, e := w.deliver(k, to)
	return e
}

func (w *twin) drop(k int) api.Errno {
	p := w.kth(k)
	if p == nil {
		return api.ErrArg
	}
	p.waits = [32]bool{}
	return api.OK
}

func (w *twin) twice(k int) api.Errno {
	p := w.kth(k)
	if p == nil {
		return api.ErrArg
	}
	other := *p
	other.bits = slices.Clone(p.bits)
	return w.add(other)
}

func (w *twin) burst(k, at int, pattern uint16) api.Errno {
	p := w.kth(k)
	if p == nil {
		return api.ErrArg
	}
	if p.hurt {
		return api.ErrKind
	}
	for bit := range p.bits {
		// The pattern's bit that turns it: how far it lies behind the first one, which is one of the piece.
		if at >= 0 && bit >= at && bit-at < 16 && pattern>>(15-(bit-at))&1 == 1 {
			p.bits[bit] = !p.bits[bit]
			p.hurt = true
		}
	}
	return api.OK
}

func (w *twin) cut(k, n int) api.Errno {
	p := w.kth(k)
	if p == nil {
		return api.ErrArg
	}
	if p.hurt {
		return api.ErrKind
	}
	for left := 1; left < len(p.bits)/8; left++ {
		if left+n == len(p.bits)/8 {
			p.bits, p.hurt = p.bits[:left*8], true
			return api.OK
		}
	}
	return api.ErrArg
}

func (w *twin) pieces() []api.Piece {
	list := []api.Piece{}
	for _, p := range w.under() {
		list = append(list, p.piece())
	}
	return list
}

// answer is what a call answers, of those that answer bytes with these.
type answer struct {
	bytes string
	e     api.Errno
}

// call is one call of a bus and of its twin.
type call struct {
	name string
	do   func(b *Bus) answer
	same func(w *twin) answer
}

func named(name string, list ...int) string {
	for _, n := range list {
		name += " " + strconv.Itoa(n)
	}
	return name
}

func sendCall(src int, s string) call {
	return call{named("Send of "+strconv.Itoa(len(s)), src), func(b *Bus) answer { return answer{"", b.Send(src, s)} }, func(w *twin) answer { return answer{"", w.send(src, s)} }}
}

func deliverCall(k, to int) call {
	return call{named("Deliver", k, to),
		func(b *Bus) answer { s, e := b.Deliver(k, to); return answer{s, e} },
		func(w *twin) answer { s, e := w.deliver(k, to); return answer{s, e} }}
}

func loseCall(k, to int) call {
	return call{named("Lose", k, to), func(b *Bus) answer { return answer{"", b.Lose(k, to)} }, func(w *twin) answer { return answer{"", w.lose(k, to)} }}
}

func dropCall(k int) call {
	return call{named("Drop", k), func(b *Bus) answer { return answer{"", b.Drop(k)} }, func(w *twin) answer { return answer{"", w.drop(k)} }}
}

func twiceCall(k int) call {
	return call{named("Twice", k), func(b *Bus) answer { return answer{"", b.Twice(k)} }, func(w *twin) answer { return answer{"", w.twice(k)} }}
}

func burstCall(k, at int, pattern uint16) call {
	return call{named("Burst", k, at, int(pattern)), func(b *Bus) answer { return answer{"", b.Burst(k, at, pattern)} }, func(w *twin) answer { return answer{"", w.burst(k, at, pattern)} }}
}

func cutCall(k, n int) call {
	return call{named("Cut", k, n), func(b *Bus) answer { return answer{"", b.Cut(k, n)} }, func(w *twin) answer { return answer{"", w.cut(k, n)} }}
}

// run does the calls on b and w, and looks behind each.
func run(t *testing.T, b *Bus, w *twin, calls []call) {
	t.Helper()
	for i, c := range calls {
		got, want := c.do(b), c.same(w)
		if got == want && b.Fault() == w.fault && slices.Equal(under(t, b), w.pieces()) {
			continue
		}
		names := ""
		for _, done := range calls[max(0, i-20) : i+1] {
			names += ", " + done.name
		}
		t.Fatalf("behind%s:\n got %q, %d, Fault %v, %s\nwant %q, %d, Fault %v, %s", names,
			got.bytes, got.e, b.Fault(), show(under(t, b)...), want.bytes, want.e, w.fault, show(w.pieces()...))
	}
}

// TestAllShortRuns holds all runs of up to four calls over sixteen against the twin, behind two Sends, of which one came to all but one.
func TestAllShortRuns(t *testing.T) {
	calls := []call{
		sendCall(0, "abc"), sendCall(31, "de"), sendCall(-1, "a"), deliverCall(0, 0), deliverCall(0, 1), deliverCall(1, 0), loseCall(0, 0), loseCall(1, 31),
		dropCall(0), dropCall(1), twiceCall(0), twiceCall(1), burstCall(0, 3, 0x8001), burstCall(1, 8, 0xFF), cutCall(0, 1), cutCall(1, 1),
	}
	chosen := make([]call, 4)
	var choose func(at int)
	choose = func(at int) {
		if at == len(chosen) {
			b, w := New(), &twin{}
			for _, c := range []call{sendCall(31, "xy"), sendCall(0, "fgh")} {
				c.do(b)
				c.same(w)
			}
			for to := 1; to < 31; to++ {
				b.Lose(0, to)
				w.lose(0, to)
			}
			run(t, b, w, chosen)
			return
		}
		for _, c := range calls {
			chosen[at] = c
			choose(at + 1)
		}
	}
	choose(0)
}

// dice are numbers in no order, always the same ones.
type dice uint32

func (d *dice) roll(below int) int {
	*d = *d*1664525 + 1013904223
	return int(*d>>8) % below
}

func (d *dice) text(longest int) string {
	text := make([]byte, d.roll(longest+1))
	for i := range text {
		text[i] = byte(d.roll(256))
	}
	return string(text)
}

// far tells a number that is mostly from 0 up to below, sometimes beside it, and seldom far away.
func (d *dice) far(below int) int {
	switch d.roll(20) {
	case 0:
		return ends()[d.roll(len(ends()))]
	case 1:
		return -1 - d.roll(3)
	}
	return d.roll(below + 1)
}

// longRun is n calls in no order; busy of sixteen of them are Sends and Twices, of a bus with about so many pieces.
func longRun(d *dice, n, busy, pieces int) []call {
	list := []call{}
	for range n {
		if d.roll(16) < busy {
			if d.roll(2) == 0 {
				list = append(list, twiceCall(d.far(pieces)))
			} else {
				list = append(list, sendCall(d.far(32), d.text(9)))
			}
			continue
		}
		switch d.roll(9) {
		case 0, 1, 2:
			list = append(list, deliverCall(d.far(pieces), d.far(32)))
		case 3:
			list = append(list, loseCall(d.far(pieces), d.far(32)))
		case 4:
			list = append(list, dropCall(d.far(pieces)))
		case 5, 6:
			list = append(list, burstCall(d.far(pieces), d.far(80), uint16(d.roll(65536))>>d.roll(17)))
		default:
			list = append(list, cutCall(d.far(pieces), d.far(9)))
		}
	}
	return list
}

func TestLongRuns(t *testing.T) {
	d := dice(9)
	for _, busy := range []int{1, 2, 4, 8} {
		for _, pieces := range []int{2, 5, 20, 64} {
			for range 4 {
				run(t, New(), &twin{}, longRun(&d, 400, busy, pieces))
			}
		}
	}
}

// TestLongRunsOfFewAddresses come to nobody often, because one address is delivered to all the time.
func TestLongRunsOfFewAddresses(t *testing.T) {
	d := dice(31)
	for range 40 {
		list := []call{}
		for range 12 {
			list = append(list, sendCall(d.roll(32), "q"+d.text(5)))
			for to := range 32 {
				if d.roll(24) > 0 {
					list = append(list, deliverCall(d.roll(2), to), loseCall(d.roll(2), to))
				}
			}
			if d.roll(2) == 0 {
				list = append(list, twiceCall(d.roll(2)))
			}
			list = append(list, burstCall(d.roll(3), d.roll(50), uint16(d.roll(65536))))
		}
		run(t, New(), &twin{}, list)
	}
}

// TestAFullBus holds full buses against the twin: each piece is gone in time, and what comes then comes last.
func TestAFullBus(t *testing.T) {
	d := dice(65)
	for range 3 {
		list := []call{}
		for range 70 {
			list = append(list, sendCall(d.roll(32), "s"+d.text(3)))
		}
		list = append(list, longRun(&d, 300, 12, 63)...)
		run(t, New(), &twin{}, list)
	}
}

// mark is a text from which one hears whose it is, even if it was hurt: a burst turns bytes of three at most, and a cut leaves one.
func mark(id int) string {
	return strings.Repeat(string([]byte{byte(id)}), 11)
}

// whose tells which mark s was.
func whose(s string) int {
	counts := [256]int{}
	for _, c := range []byte(s) {
		counts[c]++
	}
	return slices.Index(counts[:], slices.Max(counts[:]))
}

// oneBurst tells whether b is a with at least one and at most sixteen bits turned, one behind the other.
func oneBurst(a, b string) bool {
	if len(a) != len(b) || a == b {
		return false
	}
	x, y := bitsOf(a), bitsOf(b)
	first, last := -1, -1
	for i := range x {
		if x[i] != y[i] {
			if first < 0 {
				first = i
			}
			last = i
		}
	}
	return last-first < 16
}

// ledger counts what was done with each mark: whether and by whom it was sent, how often doubled, and to whom it came how often.
type ledger struct {
	src     map[int]int
	copies  map[int]int
	arrived map[[2]int]int
}

// right tells whether p may be on the bus.
func (l *ledger) right(p api.Piece) bool {
	id := whose(p.Bytes)
	src, known := l.src[id]
	if !known || src != p.Src || p.To&^but(src) != 0 || p.To == 0 {
		return false
	}
	cut := len(p.Bytes) > 0 && len(p.Bytes) < 11 && strings.HasPrefix(mark(id), p.Bytes)
	if p.Hurt {
		return oneBurst(mark(id), p.Bytes) || cut
	}
	return p.Bytes == mark(id)
}

// deliver tells whether what came may be.
func (l *ledger) deliver(t *testing.T, b *Bus, k, to int) {
	t.Helper()
	p, _ := b.Piece(k)
	s, e := b.Deliver(k, to)
	if (e == api.OK) != (to >= 0 && to < 32 && p.To>>to&1 == 1) {
		t.Fatalf("Deliver(%d, %d) of %s: %d", k, to, show(p), e)
	}
	if e != api.OK {
		return
	}
	id := whose(s)
	l.arrived[[2]int{id, to}]++
	if s != p.Bytes || !l.right(p) || to == l.src[id] || l.arrived[[2]int{id, to}] > l.copies[id] {
		t.Fatalf("Deliver(%d, %d) of %s: %q, time %d of %d", k, to, show(p), s, l.arrived[[2]int{id, to}], l.copies[id])
	}
}

// step does one thing with b, and writes it down. No mark is sent twice, for it tells who sent it.
func (l *ledger) step(t *testing.T, d *dice, b *Bus) {
	t.Helper()
	k := d.roll(b.Len() + 1)
	before := under(t, b)
	switch d.roll(8) {
	case 0:
		id, src := len(l.src), d.roll(32)
		if id < 256 && b.Send(src, mark(id)) == api.OK {
			l.src[id], l.copies[id] = src, 1
		}
	case 1:
		p, _ := b.Piece(k)
		if b.Twice(k) == api.OK {
			l.copies[whose(p.Bytes)]++
		}
	case 2:
		b.Burst(k, d.roll(100)-4, uint16(d.roll(65536)))
		l.others(t, "Burst", b, before, k)
	case 3:
		b.Cut(k, d.roll(13)-1)
		l.others(t, "Cut", b, before, k)
	case 4:
		b.Lose(k, d.far(32))
	default:
		l.deliver(t, b, k, d.far(32))
	}
}

// others tells whether all pieces but the kth are as they were, and the kth one, if it was hurt already.
func (l *ledger) others(t *testing.T, what string, b *Bus, before []api.Piece, k int) {
	t.Helper()
	now := under(t, b)
	for i, p := range before {
		if (i != k || p.Hurt) && p != now[i] {
			t.Fatalf("%s of the piece %d: the piece %d was %s, and is %s", what, k, i, show(p), show(now[i]))
		}
	}
	if len(now) != len(before) {
		t.Fatalf("%s: %d pieces, and then %d", what, len(before), len(now))
	}
}

// TestWhatIsDeliveredWasSent holds P9.2.
func TestWhatIsDeliveredWasSent(t *testing.T) {
	d := dice(92)
	for range 8 {
		b, l := New(), &ledger{map[int]int{}, map[int]int{}, map[[2]int]int{}}
		for range 2000 {
			l.step(t, &d, b)
			for _, p := range under(t, b) {
				if !l.right(p) {
					t.Fatalf("on the bus: %s", show(p))
				}
			}
		}
	}
}

// TestAllThatIsSentArrives holds P9.2: of what is neither lost nor dropped, each address but the sender's hears each one as often as it was sent or doubled.
func TestAllThatIsSentArrives(t *testing.T) {
	b, heard := New(), [32][]string{}
	want := [32][]string{}
	for id := range 30 {
		send(t, b, id, mark(id), api.OK)
	}
	for id := range 30 {
		errno(t, "Twice", b.Twice(id), api.OK)
	}
	for range 2 {
		for id := range 30 {
			for to := range 32 {
				if to != id {
					want[to] = append(want[to], mark(id))
				}
			}
		}
	}
	for range 60 {
		p, _ := b.Piece(0)
		for to := range 32 {
			if p.To>>to&1 == 1 {
				s, e := b.Deliver(0, to)
				errno(t, "Deliver", e, api.OK)
				heard[to] = append(heard[to], s)
			}
		}
	}
	expect(t, "all came", b)
	for to := range 32 {
		if !slices.Equal(heard[to], want[to]) {
			t.Errorf("to %d came %q", to, heard[to])
		}
	}
}

// TestTheZeroBus holds a bus that New didn't make against the twin.
func TestTheZeroBus(t *testing.T) {
	var b Bus
	expect(t, "zero values", &b)
	if b.Fault() {
		t.Error("zero values: Fault")
	}
	send(t, &b, 1, "ab", api.OK)
	deliver(t, &b, 0, 2, "ab", api.OK)
	expect(t, "zero values", &b, api.Piece{Bytes: "ab", Src: 1, To: but(1, 2)})
	d := dice(0)
	for range 8 {
		run(t, new(Bus), &twin{}, longRun(&d, 300, 6, 20))
		run(t, &Bus{}, &twin{}, longRun(&d, 300, 12, 60))
	}
	for _, k := range noPlaces(0) {
		z := &Bus{}
		errno(t, "Drop", z.Drop(k), api.ErrArg)
		errno(t, "Twice", z.Twice(k), api.ErrArg)
		errno(t, "Burst", z.Burst(k, 0, 1), api.ErrArg)
		errno(t, "Cut", z.Cut(k, 1), api.ErrArg)
		errno(t, "Lose", z.Lose(k, 1), api.ErrArg)
		deliver(t, z, k, 1, "", api.ErrArg)
	}
}

// TestNothingThere holds R2, of a nil *Bus.
func TestNothingThere(t *testing.T) {
	var b *Bus
	for range 2 {
		for _, k := range append(noPlaces(0), 0, 1, 63, 64) {
			if p, ok := b.Piece(k); ok || p != (api.Piece{}) {
				t.Errorf("Piece(%d) = %s, %v", k, show(p), ok)
			}
			errno(t, "Drop", b.Drop(k), api.ErrArg)
			errno(t, "Twice", b.Twice(k), api.ErrArg)
			for _, n := range append(noAddresses(), addresses()...) {
				deliver(t, b, k, n, "", api.ErrArg)
				errno(t, "Lose", b.Lose(k, n), api.ErrArg)
				errno(t, "Burst", b.Burst(k, n, 0xFFFF), api.ErrArg)
				errno(t, "Burst of nothing", b.Burst(k, n, 0), api.ErrArg)
				errno(t, "Cut", b.Cut(k, n), api.ErrArg)
			}
		}
		for _, src := range append(noAddresses(), addresses()...) {
			for _, s := range []string{"", "a", strings.Repeat("a", 255), strings.Repeat("a", 256)} {
				send(t, b, src, s, api.ErrArg)
			}
		}
		if b.Len() != 0 || b.Fault() || b != nil {
			t.Errorf("Len %d, Fault %v", b.Len(), b.Fault())
		}
	}
	for range 70 {
		send(t, b, 1, "a", api.ErrArg)
	}
	if b.Fault() {
		t.Error("Fault")
	}
}

// TestWhatWasAnsweredStays holds R4: no later call changes what was answered, and what was answered changes no bus.
func TestWhatWasAnsweredStays(t *testing.T) {
	type kept struct{ piece, copied api.Piece }
	d := dice(77)
	for range 20 {
		b, list := New(), []kept{}
		for _, c := range longRun(&d, 300, 6, 12) {
			got := c.do(b)
			list = append(list, kept{api.Piece{Bytes: got.bytes}, api.Piece{Bytes: strings.Clone(got.bytes)}})
			for _, p := range under(t, b) {
				copied := p
				copied.Bytes = strings.Clone(p.Bytes)
				list = append(list, kept{p, copied})
			}
		}
		for _, k := range list {
			if k.piece != k.copied {
				t.Fatalf("answered %s, and now it is %s", show(k.copied), show(k.piece))
			}
		}
	}
	b := of(t, "abc", "de")
	p, _ := b.Piece(0)
	p.Bytes, p.Src, p.To, p.Hurt = "xyz", 7, 0, true
	expect(t, "what was answered is the caller's own", b, sent(0, "abc"), sent(1, "de"))
}

// TestWhatIsHandedInStays holds R4: what is hurt on the bus isn't hurt where it came from, nor on the bus once more.
func TestWhatIsHandedInStays(t *testing.T) {
	bytes := []byte("abcdef")
	s := string(bytes)
	b := New()
	send(t, b, 1, s, api.OK)
	send(t, b, 2, s, api.OK)
	send(t, b, 3, s[1:4], api.OK)
	bytes[0] = '!'
	errno(t, "Burst", b.Burst(0, 0, 0xFFFF), api.OK)
	errno(t, "Cut", b.Cut(2, 1), api.OK)
	if s != "abcdef" {
		t.Errorf("handed in: %q", s)
	}
	expect(t, "each on its own", b, hurt(1, "\x9e\x9dcdef"), sent(2, "abcdef"), hurt(3, "bc"))
}

// TestTwoBuses don't touch one another.
func TestTwoBuses(t *testing.T) {
	a, b := of(t, "abc", "de"), of(t, "abc", "de")
	errno(t, "Drop", a.Drop(0), api.OK)
	errno(t, "Burst", a.Burst(0, 0, 0x8000), api.OK)
	for range 70 {
		a.Send(4, "x")
	}
	if !a.Fault() || b.Fault() || New().Fault() {
		t.Errorf("Fault %v and %v", a.Fault(), b.Fault())
	}
	expect(t, "the other one", b, sent(0, "abc"), sent(1, "de"))
	expect(t, "one new behind them", New())
}

// TestEveryCallEnds holds P0 and R7: every call, at all chosen arguments, answers, and the same of two buses with which the same was done.
func TestEveryCallEnds(t *testing.T) {
	numbers := slices.Concat(ends(), []int{-33, -32, -16, -2, -1, 0, 1, 2, 3, 7, 8, 15, 16, 31, 32, 63, 64, 255, 256, 2040, 65536})
	for _, size := range []int{0, 1, 3, 63, 64} {
		for _, k := range numbers {
			a, b := New(), New()
			for i := range size {
				a.Send(i%32, "abc")
				b.Send(i%32, "abc")
			}
			for _, n := range numbers {
				for _, pattern := range []uint16{0, 1, 0x8000, 0xFFFF} {
					if a.Burst(k, n, pattern) != b.Burst(k, n, pattern) {
						t.Fatalf("Burst(%d, %d, %d): two answers", k, n, pattern)
					}
				}
				if a.Cut(k, n) != b.Cut(k, n) || a.Lose(k, n) != b.Lose(k, n) || a.Send(n, "abc") != b.Send(n, "abc") || a.Twice(k) != b.Twice(k) {
					t.Fatalf("%d and %d: two answers", k, n)
				}
				one, oneE := a.Deliver(k, n)
				two, twoE := b.Deliver(k, n)
				if one != two || oneE != twoE || a.Fault() != b.Fault() || !slices.Equal(under(t, a), under(t, b)) {
					t.Fatalf("Deliver(%d, %d): two answers", k, n)
				}
			}
			if a.Drop(k) != b.Drop(k) || !slices.Equal(under(t, a), under(t, b)) {
				t.Fatalf("Drop(%d): two answers", k)
			}
		}
	}
}
