package gdata

import (
	"cmp"
	"math"
	"slices"
	"strconv"
	"strings"
	"testing"

	"fugleman/api"
)

// version tells a version by its Inc and its Seq.
func version(inc uint16, seq uint32) api.Version {
	return api.Version{Inc: inc, Seq: seq}
}

// ramp tells a text of n bytes, from a first one on, each greater by step than the one ahead.
func ramp(n, first, step int) string {
	bytes := make([]byte, n)
	for i := range bytes {
		bytes[i] = byte(first + i*step)
	}
	return string(bytes)
}

// other tells a text of as many bytes as s has, none of which is as in s.
func other(s string) string {
	bytes := []byte(s)
	for i := range bytes {
		bytes[i] ^= 0x5a
	}
	return string(bytes)
}

// edgeSizes are numbers at the ends of int and of what a size may be, many of those that may not be with one that may be in their lowest bits.
func edgeSizes() []int {
	list := []int{
		math.MinInt, math.MinInt + 1, math.MinInt + 40, -1<<32 + 40, -1 << 32, -1 << 31, -65536 + 40, -256 + 40, -256, -65, -64, -40, -16,
		100, 127, 128, 255, 256, 257, 256 + 40, 65536, 65536 + 40, 1<<31 - 1, 1 << 31, 1<<32 - 1, 1 << 32, 1<<32 + 40, math.MaxInt - 15, math.MaxInt - 1, math.MaxInt,
	}
	for size := -1; size <= 66; size++ {
		list = append(list, size)
	}
	return list
}

// edgeLengths are those of values that may be, and longer ones, some with such a length in their lowest bits.
func edgeLengths() []int {
	list := []int{100, 128, 255, 256, 257, 256 + 16, 256 + 40, 65536, 65536 + 1, 65536 + 40}
	for n := 0; n <= 66; n++ {
		list = append(list, n)
	}
	return list
}

// incs are incarnations at their ends, and some in between.
func incs() []uint16 {
	return []uint16{0, 1, 7, 255, 256, 257, 32767, 32768, 65534, 65535}
}

// kinds are those that a frame may have, and numbers that are none, some with Data in their lowest bits.
func kinds() []int {
	return []int{
		api.Token, api.Poll, api.Status, api.Data, api.Leave,
		0, 6, -1, -4, 255, 256, 256 + 4, -256 + 4, 1<<16 + 4, 1<<32 + 4, -1<<32 + 4, math.MinInt, math.MinInt + 4, math.MaxInt,
	}
}

// The plain ones below go by the words of the chapters, in another way.

// plainCompare holds versions against each other as one number.
func plainCompare(a, b api.Version) int {
	return cmp.Compare(uint64(a.Inc)<<32+uint64(a.Seq), uint64(b.Inc)<<32+uint64(b.Seq))
}

// plainParts deals out a value's bytes one by one, each into a new part where the last one has 16.
func plainParts(value string) []string {
	list := []string{}
	for i := range len(value) {
		if i%16 == 0 {
			list = append(list, "")
		}
		list[len(list)-1] += value[i : i+1]
	}
	return list
}

// split tells the frames of a value, with nothing in them that the chapter doesn't name.
func split(v api.Version, value string) []api.Frame {
	list := []api.Frame{}
	for _, bytes := range plainParts(value) {
		list = append(list, api.Frame{Kind: 4, Version: v, Part: uint8(len(list)), Bytes: bytes})
	}
	for i := range list {
		list[i].Parts = uint8(len(list))
	}
	return list
}

// plainPub has all values that were ever committed, from the Seq behind ahead on, and how many bytes of which one have gone.
type plainPub struct {
	size   int
	inc    uint16
	ahead  uint32
	values []string
	under  int
	gone   int
}

func (p *plainPub) commit(value string) api.Errno {
	e := api.OK
	if uint64(p.ahead)+uint64(len(p.values)) == 1<<32-1 {
		e = api.ErrSat
	}
	if len(value) != p.size {
		e = api.ErrLen
	}
	if e == api.OK {
		p.values = append(p.values, value)
	}
	return e
}

func (p *plainPub) last() (string, api.Version, bool) {
	n := len(p.values)
	if n == 0 {
		return "", api.Version{}, false
	}
	return p.values[n-1], version(p.inc, p.ahead+uint32(n)), true
}

func (p *plainPub) next() (api.Frame, bool) {
	if len(p.values) == 0 {
		return api.Frame{}, false
	}
	if p.left() == 0 {
		p.under, p.gone = len(p.values), 0
	}
	f := split(version(p.inc, p.ahead+uint32(p.under)), p.values[p.under-1])[p.gone/16]
	p.gone += len(f.Bytes)
	return f, true
}

// left counts the places of the parts that didn't go.
func (p *plainPub) left() int {
	n := 0
	for at := p.gone; at < p.size && p.under > 0; at += 16 {
		n++
	}
	return n
}

// plainSub has all parts that ever came, the first value and all that were ever whole, and which of these is in front.
type plainSub struct {
	size   int
	came   map[api.Version]map[uint8]string
	most   api.Version
	wholes []edition
	front  int
	fault  bool
}

func newPlainSub(size int, first string) *plainSub {
	all := first + strings.Repeat("\x00", size)
	return &plainSub{size: size, came: map[api.Version]map[uint8]string{}, wholes: []edition{{value: all[:size]}}}
}

// put finds the last error that applies first, and the first one last.
func (s *plainSub) put(f api.Frame) (bool, api.Errno) {
	e, lengths := api.OK, plainParts(strings.Repeat("?", s.size))
	if s.came[f.Version][f.Part] != "" {
		e = api.ErrTwice
	}
	if len(s.came) > 0 && plainCompare(f.Version, s.most) < 0 {
		e = api.ErrArg
	}
	if int(f.Parts) != len(lengths) || int(f.Part) >= len(lengths) || len(f.Bytes) != len(lengths[f.Part]) {
		e = api.ErrForm
	}
	if f.Kind != 4 {
		e = api.ErrKind
	}
	s.fault = s.fault || e == api.ErrForm
	if e != api.OK {
		return false, e
	}
	s.most = f.Version
	if s.came[f.Version] == nil {
		s.came[f.Version] = map[uint8]string{}
	}
	s.came[f.Version][f.Part] = f.Bytes
	if len(s.came[f.Version]) < len(lengths) {
		return false, api.OK
	}
	value := ""
	for part := range lengths {
		value += s.came[f.Version][uint8(part)]
	}
	s.wholes = append(s.wholes, edition{value: value, version: f.Version})
	return true, api.OK
}

func (s *plainSub) latch() bool {
	was := s.front
	s.front = len(s.wholes) - 1
	return s.front != was
}

// pubSeen is what a publisher tells of itself.
type pubSeen struct {
	value   string
	version api.Version
	ok      bool
	left    int
}

func seePub(p *Pub) pubSeen {
	value, v, ok := p.Last()
	return pubSeen{value, v, ok, p.Left()}
}

func (p *plainPub) seen() pubSeen {
	value, v, ok := p.last()
	return pubSeen{value, v, ok, p.left()}
}

// subSeen is what a subscriber tells of itself.
type subSeen struct {
	front   string
	version api.Version
	behind  string
	waiting api.Version
	waits   bool
	fault   bool
}

func seeSub(s *Sub) subSeen {
	front, v := s.Front()
	behind, w, waits := s.Waits()
	return subSeen{front, v, behind, w, waits, s.Fault()}
}

func (s *plainSub) seen() subSeen {
	front, behind, last := s.wholes[s.front], edition{}, len(s.wholes)-1
	if last > s.front {
		behind = s.wholes[last]
	}
	return subSeen{front.value, front.version, behind.value, behind.version, last > s.front, s.fault}
}

// The checks below ask a call, and tell what it answers otherwise than it should.

func pubIs(t *testing.T, what string, p *Pub, want pubSeen) {
	t.Helper()
	for range 2 {
		if got := seePub(p); got != want {
			t.Errorf("%s: Last and Left = %+v, want %+v", what, got, want)
		}
	}
}

func subIs(t *testing.T, what string, s *Sub, want subSeen) {
	t.Helper()
	for range 2 {
		if got := seeSub(s); got != want {
			t.Errorf("%s: Front, Waits and Fault = %+v, want %+v", what, got, want)
		}
	}
}

// commits commits a value, and looks that no error is told.
func commits(t *testing.T, what string, p *Pub, value string) {
	t.Helper()
	if e := p.Commit(value); e != api.OK {
		t.Errorf("%s: Commit(%q) = %d, want OK", what, value, e)
	}
}

// uncommitted commits a value that is refused, and looks that nothing that is told changes.
func uncommitted(t *testing.T, what string, p *Pub, value string, want api.Errno) {
	t.Helper()
	was := seePub(p)
	if e := p.Commit(value); e != want {
		t.Errorf("%s: Commit of %d bytes = %d, want %d", what, len(value), e, want)
	}
	pubIs(t, what+", behind a Commit that was refused", p, was)
}

func next(t *testing.T, what string, p *Pub, want api.Frame, wantOK bool) {
	t.Helper()
	if f, ok := p.Next(); f != want || ok != wantOK {
		t.Errorf("%s: Next = %+v, %v, want %+v, %v", what, f, ok, want, wantOK)
	}
}

// goes looks that all these frames are the next ones, in their order, and that each is one less that is left.
func goes(t *testing.T, what string, p *Pub, frames []api.Frame) {
	t.Helper()
	for i, f := range frames {
		next(t, what, p, f, true)
		if left := p.Left(); left != len(frames)-1-i {
			t.Errorf("%s: behind part %d: Left = %d, want %d", what, f.Part, left, len(frames)-1-i)
		}
	}
}

func put(t *testing.T, what string, s *Sub, f api.Frame, want bool, wantE api.Errno) {
	t.Helper()
	if whole, e := s.Put(f); whole != want || e != wantE {
		t.Errorf("%s: Put(%+v) = %v, %d, want %v, %d", what, f, whole, e, want, wantE)
	}
}

// refused puts a frame that is refused, and looks that nothing changes but the fault, where its form is wrong.
func refused(t *testing.T, what string, s *Sub, f api.Frame, want api.Errno) {
	t.Helper()
	is := seeSub(s)
	put(t, what, s, f, false, want)
	is.fault = is.fault || want == api.ErrForm
	subIs(t, what+", refused", s, is)
}

// arrives puts all parts of a value, and looks that it is whole by the last one, and waits then.
func arrives(t *testing.T, what string, s *Sub, v api.Version, value string) {
	t.Helper()
	is, frames := seeSub(s), split(v, value)
	for i, f := range frames {
		last := i == len(frames)-1
		put(t, what, s, f, last, api.OK)
		if last {
			is.behind, is.waiting, is.waits = value, v, true
		}
		subIs(t, what+", behind part "+strconv.Itoa(i), s, is)
	}
}

// latch latches, and looks that what waited is in front, and nothing else changes.
func latch(t *testing.T, what string, s *Sub) {
	t.Helper()
	is := seeSub(s)
	want := is.waits
	if is.waits {
		is.front, is.version, is.behind, is.waiting, is.waits = is.behind, is.waiting, "", api.Version{}, false
	}
	if got := s.Latch(); got != want {
		t.Errorf("%s: Latch = %v, want %v", what, got, want)
	}
	subIs(t, what+", behind Latch", s, is)
}

// freshPub tells a new publisher of a size that may be.
func freshPub(t *testing.T, size int, inc uint16) *Pub {
	t.Helper()
	p := NewPub(size, inc)
	if p == nil {
		t.Fatalf("NewPub(%d, %d) = nil", size, inc)
	}
	return p
}

// freshSub tells a new subscriber of a size that may be.
func freshSub(t *testing.T, size int, first string) *Sub {
	t.Helper()
	s := NewSub(size, first)
	if s == nil {
		t.Fatalf("NewSub(%d, %q) = nil", size, first)
	}
	return s
}

// TestTheExample is that of the chapter.
func TestTheExample(t *testing.T) {
	value := ramp(20, 'a', 1)
	s, frames := freshSub(t, 20, ""), split(version(0, 2), value)
	put(t, "the example", s, frames[0], false, api.OK)
	if s.Latch() {
		t.Error("Latch of a part alone = true")
	}
	put(t, "the example", s, frames[1], true, api.OK)
	if !s.Latch() {
		t.Error("Latch of both = false")
	}
	subIs(t, "the example", s, subSeen{front: value, version: version(0, 2)})
}

// TestTheExampleOfTheWhole: a value of 40 bytes goes in three parts; while they go two more are committed: the reader gets the first one, whole.
func TestTheExampleOfTheWhole(t *testing.T) {
	p, s := freshPub(t, 40, 9), freshSub(t, 40, "")
	one, two, three := ramp(40, 0, 1), ramp(40, 100, 1), ramp(40, 200, 1)
	commits(t, "one", p, one)
	for i, more := range []string{two, three, three} {
		f, ok := p.Next()
		if whole, e := s.Put(f); whole != (i == 2) || e != api.OK || !ok {
			t.Errorf("part %d: %v, %d, %v", i, whole, e, ok)
		}
		commits(t, "more", p, more)
	}
	latch(t, "whole", s)
	subIs(t, "whole", s, subSeen{front: one, version: version(9, 1)})
}

func TestNewPub(t *testing.T) {
	for _, size := range edgeSizes() {
		for _, inc := range incs() {
			p := NewPub(size, inc)
			if (p != nil) != (1 <= size && size <= 64) {
				t.Errorf("NewPub(%d, %d): nil is %v", size, inc, p == nil)
			}
			if p == nil {
				continue
			}
			pubIs(t, "a new one", p, pubSeen{})
			next(t, "a new one", p, api.Frame{}, false)
			next(t, "a new one, once more", p, api.Frame{}, false)
			pubIs(t, "a new one, behind Next", p, pubSeen{})
			if again := NewPub(size, inc); again == p {
				t.Errorf("NewPub(%d, %d): the same publisher twice", size, inc)
			}
			value := ramp(size, int(inc), 3)
			commits(t, "the first", p, value)
			pubIs(t, "the first", p, pubSeen{value, version(inc, 1), true, 0})
			goes(t, "the first", p, split(version(inc, 1), value))
		}
	}
}

// stage is a publisher somewhere on its way, with what it tells of itself, and the frames that go next of the value that went last or goes.
type stage struct {
	name string
	p    *Pub
	seen pubSeen
	left []api.Frame
}

// stages are publishers of one size: a new one; such as committed one value, with none of its parts gone, or each number of them, the second time; and such as committed two, the second one while the first one is under way.
func stages(t *testing.T, size int) []stage {
	t.Helper()
	one, two := ramp(size, 'a', 1), ramp(size, 'A', 1)
	list := []stage{{name: "a new one", p: freshPub(t, size, 5)}}
	frames := split(version(5, 1), one)
	for gone := range len(frames) + 1 {
		p := freshPub(t, size, 5)
		commits(t, "stages", p, one)
		name, left := strconv.Itoa(gone)+" parts gone", frames
		seen := pubSeen{one, version(5, 1), true, 0}
		if gone > 0 {
			goes(t, name, p, frames)
			for range gone {
				next(t, name, p, frames[len(frames)-len(left)], true)
				left = left[1:]
			}
			seen.left = len(left)
		}
		list = append(list, stage{name, p, seen, left})
	}
	for _, s := range stagesOfOne(t, size, one) {
		commits(t, "stages", s.p, two)
		s.name, s.seen.value, s.seen.version = s.name+" and one more committed", two, version(5, 2)
		list = append(list, s)
	}
	return list
}

// stagesOfOne are publishers of which some parts, but not all, of their first value went.
func stagesOfOne(t *testing.T, size int, one string) []stage {
	t.Helper()
	list, frames := []stage{}, split(version(5, 1), one)
	for gone := 1; gone < len(frames); gone++ {
		p := freshPub(t, size, 5)
		commits(t, "stages", p, one)
		for _, f := range frames[:gone] {
			next(t, "stages", p, f, true)
		}
		list = append(list, stage{strconv.Itoa(gone) + " parts gone", p, pubSeen{one, version(5, 1), true, len(frames) - gone}, frames[gone:]})
	}
	return list
}

// TestCommitOfEachLength has values of each length at each size, at each stage of a publisher's way: of that size they are committed, of another one nothing changes.
func TestCommitOfEachLength(t *testing.T) {
	for size := 1; size <= 64; size++ {
		for _, s := range stages(t, size) {
			what := strconv.Itoa(size) + " bytes, " + s.name
			pubIs(t, what, s.p, s.seen)
			for _, n := range edgeLengths() {
				if n != size {
					uncommitted(t, what, s.p, ramp(n, 50, 1), api.ErrLen)
				}
			}
			pubIs(t, what+", wrong lengths", s.p, s.seen)
			for i, f := range s.left {
				next(t, what+", wrong lengths", s.p, f, true)
				uncommitted(t, what, s.p, ramp(size+1, 50, 1), api.ErrLen)
				uncommitted(t, what, s.p, ramp(size-1, 50, 1), api.ErrLen)
				if left := s.p.Left(); left != len(s.left)-1-i {
					t.Errorf("%s: Left = %d, want %d", what, left, len(s.left)-1-i)
				}
			}
			value := ramp(size, 60, 7)
			v := version(5, s.seen.version.Seq+1)
			commits(t, what, s.p, value)
			pubIs(t, what, s.p, pubSeen{value, v, true, 0})
			goes(t, what+", then", s.p, split(v, value))
		}
	}
}

// TestSeq: the first one is 1, each further one is one more, with refused ones in between that don't count.
func TestSeq(t *testing.T) {
	for _, inc := range incs() {
		p := freshPub(t, 18, inc)
		for seq := uint32(1); seq <= 1000; seq++ {
			uncommitted(t, "refused", p, "short", api.ErrLen)
			value := ramp(18, int(seq), int(inc))
			commits(t, "one more", p, value)
			was := seePub(p)
			if was.value != value || was.version != version(inc, seq) || !was.ok {
				t.Errorf("%+v, want %q, Inc %d, Seq %d", was, value, inc, seq)
			}
			if seq%3 == 0 {
				p.Next()
			}
		}
	}
}

// TestSameValueTwice has its own version each time.
func TestSameValueTwice(t *testing.T) {
	p := freshPub(t, 20, 3)
	value := ramp(20, 0, 0)
	for seq := uint32(1); seq < 5; seq++ {
		commits(t, "the same", p, value)
		pubIs(t, "the same", p, pubSeen{value, version(3, seq), true, 0})
		goes(t, "the same", p, split(version(3, seq), value))
	}
}

// near tells a publisher that committed value with that Seq, as if all the ones ahead of it had been.
func near(t *testing.T, value string, inc uint16, seq uint32) *Pub {
	t.Helper()
	p := freshPub(t, len(value), inc)
	commits(t, "near the end", p, value)
	p.last.version.Seq = seq
	pubIs(t, "near the end", p, pubSeen{value, version(inc, seq), true, 0})
	return p
}

// TestTheEndOfSeq commits up to the last Seq, and then more, at each stage of the last value's way.
func TestTheEndOfSeq(t *testing.T) {
	for size := 1; size <= 64; size++ {
		for _, inc := range []uint16{0, 7, 65535} {
			old, one, two := ramp(size, 0, 1), ramp(size, 80, 1), ramp(size, 160, 1)
			p := near(t, old, inc, math.MaxUint32-2)
			commits(t, "the last but one", p, one)
			pubIs(t, "the last but one", p, pubSeen{one, version(inc, math.MaxUint32-1), true, 0})
			commits(t, "the last", p, two)
			last := pubSeen{two, version(inc, math.MaxUint32), true, 0}
			pubIs(t, "the last", p, last)
			for range 3 {
				for _, value := range []string{one, two, other(two)} {
					uncommitted(t, "behind the last", p, value, api.ErrSat)
				}
				for _, n := range edgeLengths() {
					if n != size {
						uncommitted(t, "behind the last", p, ramp(n, 5, 1), api.ErrLen)
					}
				}
				for i, f := range split(last.version, two) {
					next(t, "the last", p, f, true)
					uncommitted(t, "behind the last", p, old, api.ErrSat)
					last.left = int(f.Parts) - 1 - i
					pubIs(t, "the last", p, last)
				}
			}
		}
	}
}

// TestTheEndOfSeqWhileOneIsUnderWay: what was under way ahead of the end goes on to its end.
func TestTheEndOfSeqWhileOneIsUnderWay(t *testing.T) {
	one, two := ramp(64, 0, 1), ramp(64, 80, 1)
	p := near(t, one, 3, math.MaxUint32-1)
	frames := split(version(3, math.MaxUint32-1), one)
	next(t, "under way", p, frames[0], true)
	commits(t, "the last", p, two)
	uncommitted(t, "behind the last", p, one, api.ErrSat)
	pubIs(t, "under way", p, pubSeen{two, version(3, math.MaxUint32), true, 3})
	goes(t, "under way", p, frames[1:])
	goes(t, "the last", p, split(version(3, math.MaxUint32), two))
}

// TestNextOfEachSize has all parts in their order, and from the first one again behind the last one, with bytes of every value.
func TestNextOfEachSize(t *testing.T) {
	for size := 1; size <= 64; size++ {
		for first := 0; first < 256; first += 5 {
			for _, step := range []int{0, 1, 77} {
				value := ramp(size, first, step)
				p := freshPub(t, size, uint16(first*256+size))
				commits(t, "each size", p, value)
				frames := split(version(uint16(first*256+size), 1), value)
				for range 3 {
					goes(t, strconv.Itoa(size)+" bytes", p, frames)
				}
				pubIs(t, "each size", p, pubSeen{value, version(uint16(first*256+size), 1), true, 0})
			}
		}
	}
}

// TestNextHasNoOtherFields has the frames written out.
func TestNextHasNoOtherFields(t *testing.T) {
	p := freshPub(t, 33, 65535)
	commits(t, "written out", p, strings.Repeat("a", 20)+strings.Repeat("b", 13))
	for range 2 {
		next(t, "written out", p, api.Frame{Kind: 4, Version: api.Version{Inc: 65535, Seq: 1}, Part: 0, Parts: 3, Bytes: "aaaaaaaaaaaaaaaa"}, true)
		next(t, "written out", p, api.Frame{Kind: 4, Version: api.Version{Inc: 65535, Seq: 1}, Part: 1, Parts: 3, Bytes: "aaaabbbbbbbbbbbb"}, true)
		next(t, "written out", p, api.Frame{Kind: 4, Version: api.Version{Inc: 65535, Seq: 1}, Part: 2, Parts: 3, Bytes: "b"}, true)
	}
	// Bytes are counted, not runes: one rune is cut in two.
	p = freshPub(t, 21, 0)
	commits(t, "runes", p, strings.Repeat("\u20ac", 7))
	next(t, "runes", p, api.Frame{Kind: 4, Version: api.Version{Seq: 1}, Parts: 2, Bytes: strings.Repeat("\u20ac", 5) + "\xe2"}, true)
	next(t, "runes", p, api.Frame{Kind: 4, Version: api.Version{Seq: 1}, Part: 1, Parts: 2, Bytes: "\x82\xac\u20ac"}, true)
}

// TestCommitWhileOneIsUnderWay commits one or more behind each part: the one under way goes on to its end, and the newest one comes behind it.
func TestCommitWhileOneIsUnderWay(t *testing.T) {
	for size := 1; size <= 64; size++ {
		one := ramp(size, 0, 1)
		frames := split(version(2, 1), one)
		for gone := 1; gone <= len(frames); gone++ {
			for more := 1; more <= 3; more++ {
				p := freshPub(t, size, 2)
				commits(t, "under way", p, one)
				for _, f := range frames[:gone] {
					next(t, "under way", p, f, true)
				}
				newest := ""
				for i := range more {
					newest = ramp(size, 64*(i+1), 1)
					commits(t, "under way", p, newest)
					uncommitted(t, "under way", p, newest+"x", api.ErrLen)
				}
				v := version(2, uint32(1+more))
				pubIs(t, "under way", p, pubSeen{newest, v, true, len(frames) - gone})
				goes(t, "under way", p, frames[gone:])
				goes(t, "the newest one", p, split(v, newest))
				goes(t, "the newest one again", p, split(v, newest))
			}
		}
	}
}

// TestCommitBehindEachPart commits one behind each part that goes: of each turn's frames all are of the value that was the newest one as the turn began.
func TestCommitBehindEachPart(t *testing.T) {
	for size := 1; size <= 64; size++ {
		p, seq := freshPub(t, size, 1), uint32(1)
		commits(t, "each part", p, ramp(size, 1, 1))
		for range 5 {
			began := seq
			for _, f := range split(version(1, began), ramp(size, int(began), 1)) {
				next(t, "each part", p, f, true)
				seq++
				commits(t, "each part", p, ramp(size, int(seq), 1))
				pubIs(t, "each part", p, pubSeen{ramp(size, int(seq), 1), version(1, seq), true, int(f.Parts-1) - int(f.Part)})
			}
		}
	}
}

// TestLeft asks behind each act, and more than once.
func TestLeft(t *testing.T) {
	left := func(what string, p *Pub, want int) {
		t.Helper()
		for range 2 {
			if n := p.Left(); n != want {
				t.Errorf("%s: Left = %d, want %d", what, n, want)
			}
		}
	}
	for size := 1; size <= 64; size++ {
		p, parts := freshPub(t, size, 1), (size+15)/16
		left("a new one", p, 0)
		p.Next()
		left("a new one, behind Next", p, 0)
		p.Commit(ramp(size, 0, 1))
		left("behind Commit", p, 0)
		for range 2 {
			for n := parts - 1; n >= 0; n-- {
				p.Next()
				left("behind Next", p, n)
				p.Commit("")
				left("behind a Commit that was refused", p, n)
				p.Commit(ramp(size, n, 1))
				left("behind Commit, while one is under way", p, n)
			}
		}
	}
}

// TestNewSub has values that are shorter, as long, and longer, with bytes of every value: filled up, or cut off.
func TestNewSub(t *testing.T) {
	for _, size := range edgeSizes() {
		for _, n := range []int{0, 1, 15, 16, 17, size - 1, size, size + 1, 63, 64, 65, 100, 256, 65536 + 40} {
			if n < 0 || n > 1<<17 {
				continue
			}
			s := NewSub(size, ramp(n, 1, 1))
			if (s != nil) != (1 <= size && size <= 64) {
				t.Errorf("NewSub(%d, of %d bytes): nil is %v", size, n, s == nil)
			}
			if again := NewSub(size, ramp(n, 1, 1)); again == s && s != nil {
				t.Errorf("NewSub(%d): the same subscriber twice", size)
			}
		}
	}
	for size := 1; size <= 64; size++ {
		for _, n := range edgeLengths() {
			for _, first := range []int{0, 1, 64, 128, 192, 255} {
				for _, step := range []int{0, 1} {
					value := ramp(n, first, step)
					want := []byte{}
					for i := range size {
						if i < n {
							want = append(want, value[i])
						} else {
							want = append(want, 0)
						}
					}
					s := freshSub(t, size, value)
					subIs(t, "a new one", s, subSeen{front: string(want)})
					latch(t, "a new one", s)
				}
			}
		}
	}
}

// TestNewSubWrittenOut has some first values by their bytes.
func TestNewSubWrittenOut(t *testing.T) {
	for _, c := range []struct {
		size        int
		value, want string
	}{
		{1, "", "\x00"},
		{1, "ab", "a"},
		{3, "", "\x00\x00\x00"},
		{3, "a", "a\x00\x00"},
		{3, "\x00\x00a", "\x00\x00a"},
		{3, "abc", "abc"},
		{3, "abcd", "abc"},
		{4, "\xff\x00\xfe", "\xff\x00\xfe\x00"},
		{4, "\u20ac\u20ac", "\u20ac\xe2"},
		{64, "", strings.Repeat("\x00", 64)},
		{64, strings.Repeat("x", 65), strings.Repeat("x", 64)},
	} {
		subIs(t, "written out", freshSub(t, c.size, c.value), subSeen{front: c.want})
	}
}

// TestSubIsOfThatSize offers each subscriber the frames of values of each size: those of its own are taken alone.
func TestSubIsOfThatSize(t *testing.T) {
	for size := 1; size <= 64; size++ {
		for another := 1; another <= 64; another++ {
			s, value := freshSub(t, size, ""), ramp(another, size, 3)
			whole := false
			for _, f := range split(version(1, 1), value) {
				whole, _ = s.Put(f)
			}
			is := seeSub(s)
			if whole != (size == another) || is.waits != whole || whole && is.behind != value || is.fault == whole {
				t.Errorf("size %d, frames of a value of %d bytes: %v, %+v", size, another, whole, is)
			}
		}
	}
}

// orders are all orders of the numbers below n.
func orders(n int) [][]int {
	if n == 0 {
		return [][]int{{}}
	}
	list := [][]int{}
	for _, short := range orders(n - 1) {
		for i := range n {
			list = append(list, slices.Insert(slices.Clone(short), i, n-1))
		}
	}
	return list
}

// TestPutInEachOrder has all parts of a value of each size in all orders, each offered twice: it waits behind the last one, and is in front behind Latch.
func TestPutInEachOrder(t *testing.T) {
	for size := 1; size <= 64; size++ {
		for _, v := range []api.Version{{}, version(0, 1), version(1, 0), version(2, 3), version(65535, math.MaxUint32)} {
			for i, order := range orders((size + 15) / 16) {
				first, value := ramp(size, 99, 0), ramp(size, 11*i+size, 5)
				s, frames, what := freshSub(t, size, first), split(v, value), strconv.Itoa(size)+" bytes"
				is := subSeen{front: first}
				for n, part := range order {
					last := n == len(order)-1
					put(t, what, s, frames[part], last, api.OK)
					if last {
						is.behind, is.waiting, is.waits = value, v, true
					}
					subIs(t, what, s, is)
					twin := frames[part]
					twin.Bytes = other(twin.Bytes)
					refused(t, what+", twice", s, twin, api.ErrTwice)
				}
				latch(t, what, s)
				latch(t, what+", twice", s)
				subIs(t, what, s, subSeen{front: value, version: v})
			}
		}
	}
}

// TestWhatElseAFrameHasIsNotAsked: neither who sent it, nor of which block it is.
func TestWhatElseAFrameHasIsNotAsked(t *testing.T) {
	value := ramp(33, 'a', 1)
	frames, s := split(version(4, 4), value), freshSub(t, 33, "")
	frames[0].Src, frames[0].Dst, frames[0].SrcInc, frames[0].DstInc, frames[0].Block = 255, 254, 65535, 65534, 253
	frames[1].Epoch, frames[1].High, frames[1].Hop, frames[1].Wants = api.Epoch{Count: 1, Addr: 2, Inc: 3}, api.Epoch{Count: 4, Addr: 5, Inc: 6}, 7, true
	put(t, "other fields", s, frames[0], false, api.OK)
	put(t, "other fields", s, frames[1], false, api.OK)
	put(t, "other fields", s, frames[2], true, api.OK)
	subIs(t, "other fields", s, subSeen{front: strings.Repeat("\x00", 33), behind: value, waiting: version(4, 4), waits: true})
}

// seat is a subscriber somewhere on its way, with which parts of the value of Inc 5 and Seq 5 came to it, and whether any part came of any value.
type seat struct {
	name string
	s    *Sub
	came []bool
	any  bool
}

// seats are subscribers to which each set of that value's parts came, behind no value, one that waits, or one in front, and latched behind that.
func seats(t *testing.T) []seat {
	t.Helper()
	v, old, value := version(5, 5), ramp(40, 'A', 1), ramp(40, 'a', 1)
	list := []seat{}
	for set := range 8 {
		for way := range 4 {
			s, came := freshSub(t, 40, "first"), []bool{false, false, false}
			if way > 0 {
				arrives(t, "seats", s, version(4, 4), old)
			}
			if way == 2 {
				latch(t, "seats", s)
			}
			for part, f := range split(v, value) {
				if set>>part&1 != 0 {
					s.Put(f)
					came[part] = true
				}
			}
			if way == 3 {
				latch(t, "seats", s)
			}
			list = append(list, seat{"parts " + strconv.Itoa(set) + ", way " + strconv.Itoa(way), s, came, way > 0 || set > 0})
		}
	}
	return list
}

// TestEachErrorAndTheirOrder has all that may be wrong with a frame, by itself and in all mixtures, at each stage of a subscriber's way.
func TestEachErrorAndTheirOrder(t *testing.T) {
	v, value := version(5, 5), ramp(40, 'a', 1)
	forms := []func(f *api.Frame){
		func(f *api.Frame) { f.Parts = 2 },
		func(f *api.Frame) { f.Parts = 4 },
		func(f *api.Frame) { f.Part = 3 },
		func(f *api.Frame) { f.Bytes = "" },
		func(f *api.Frame) { f.Bytes += "x" },
		func(f *api.Frame) { f.Bytes = f.Bytes[1:] },
		func(f *api.Frame) { f.Parts, f.Part, f.Bytes = 0, 255, "" },
	}
	for i := range len(forms) + 1 {
		for _, place := range seats(t) {
			for _, kind := range kinds() {
				for _, w := range []api.Version{{}, version(4, 3), version(4, 900), version(5, 4), v, version(5, 6), version(6, 0)} {
					for part := range 3 {
						f := split(w, value)[part]
						f.Kind = kind
						want := wanted(place, w, part)
						if i < len(forms) {
							forms[i](&f)
							want = api.ErrForm
						}
						if kind != api.Data {
							want = api.ErrKind
						}
						if want != api.OK {
							refused(t, place.name, place.s, f, want)
						}
						put(t, "nil", nil, f, false, api.ErrArg)
					}
				}
			}
			ends(t, place, v, value)
		}
	}
}

// wanted tells what the error of a part is that has the right kind and form.
func wanted(place seat, w api.Version, part int) api.Errno {
	at := version(4, 4)
	if slices.Contains(place.came, true) {
		at = version(5, 5)
	}
	switch c := plainCompare(w, at); {
	case place.any && c < 0:
		return api.ErrArg
	case place.any && c == 0 && place.came[part]:
		return api.ErrTwice
	}
	return api.OK
}

// ends puts the parts that are still missing: what was refused ahead of that plays no part.
func ends(t *testing.T, place seat, v api.Version, value string) {
	t.Helper()
	missing := []int{}
	for part, came := range place.came {
		if !came {
			missing = append(missing, part)
		}
	}
	for i, part := range missing {
		put(t, place.name, place.s, split(v, value)[part], i == len(missing)-1, api.OK)
	}
	place.s.Latch()
	if front, w := place.s.Front(); front != value || w != v {
		t.Errorf("%s: Front = %q, %v, want %q, %v", place.name, front, w, value, v)
	}
}

// TestFault: a wrong form sets it, at each stage, and nothing takes it back; no other error sets it.
func TestFault(t *testing.T) {
	value := ramp(40, 'a', 1)
	for _, place := range seats(t) {
		for _, f := range split(version(5, 5), value) {
			f.Kind = api.Poll
			place.s.Put(f)
			f.Kind, f.Bytes = api.Token, ""
			place.s.Put(f)
			f = split(version(0, 0), value)[0]
			place.s.Put(f)
		}
		arrives(t, place.name, place.s, version(5, 6), value)
		for _, f := range split(version(5, 6), value) {
			refused(t, place.name, place.s, f, api.ErrTwice)
		}
		refused(t, place.name, place.s, split(version(5, 5), value)[0], api.ErrArg)
		latch(t, place.name, place.s)
		if place.s.Fault() {
			t.Errorf("%s: Fault without a wrong form", place.name)
		}
	}
	for _, place := range seats(t) {
		wrong := split(version(5, 5), value)[0]
		wrong.Parts = 200
		refused(t, place.name, place.s, wrong, api.ErrForm)
		for seq := uint32(6); seq < 9; seq++ {
			arrives(t, place.name, place.s, version(5, seq), value)
			refused(t, place.name, place.s, split(version(5, seq), value)[0], api.ErrTwice)
			refused(t, place.name, place.s, split(version(5, 5), value)[0], api.ErrArg)
			refused(t, place.name, place.s, api.Frame{}, api.ErrKind)
			latch(t, place.name, place.s)
			latch(t, place.name, place.s)
			if !place.s.Fault() {
				t.Errorf("%s: the fault is gone", place.name)
			}
		}
	}
}

// TestWrongForms has nothing else wrong: each number of parts but the right one, each part that isn't there, each length but the right one.
func TestWrongForms(t *testing.T) {
	for size := 1; size <= 64; size++ {
		value := ramp(size, size, 1)
		for _, right := range split(version(5, 5), value) {
			for n := range 256 {
				wrongs := []api.Frame{}
				if f := right; n != int(right.Parts) {
					f.Parts = uint8(n)
					wrongs = append(wrongs, f)
				}
				if f := right; n >= int(right.Parts) {
					f.Part = uint8(n)
					wrongs = append(wrongs, f)
					f.Bytes = ""
					wrongs = append(wrongs, f)
				}
				if f := right; n != len(right.Bytes) {
					f.Bytes = ramp(n, 1, 1)
					wrongs = append(wrongs, f)
				}
				for _, f := range wrongs {
					s := freshSub(t, size, "x")
					if whole, e := s.Put(f); whole || e != api.ErrForm || !s.Fault() {
						t.Errorf("%d bytes: Put(%+v) = %v, %d, fault %v", size, f, whole, e, s.Fault())
					}
				}
			}
		}
	}
}

// TestOneWaitsAlone has whole values come while one stands behind the one in front: the newest one is in its place.
func TestOneWaitsAlone(t *testing.T) {
	for size := 1; size <= 64; size++ {
		first := ramp(size, 7, 0)
		s := freshSub(t, size, first)
		for round := range 3 {
			is := seeSub(s)
			for i := range 4 {
				v, value := version(uint16(round), uint32(i+1)), ramp(size, 50*round+10*i, 1)
				arrives(t, "one more", s, v, value)
				is.behind, is.waiting, is.waits = value, v, true
				subIs(t, "one more", s, is)
			}
			latch(t, "the newest one", s)
			subIs(t, "the newest one", s, subSeen{front: is.behind, version: is.waiting})
		}
	}
}

// TestLatch latches with none behind, with one, and twice, also while parts of the next one are there.
func TestLatch(t *testing.T) {
	one, two := ramp(50, 'a', 1), ramp(50, 'A', 1)
	s := freshSub(t, 50, "first")
	first, _ := s.Front()
	latch(t, "with none", s)
	latch(t, "with none, twice", s)
	subIs(t, "with none", s, subSeen{front: first})
	arrives(t, "one", s, version(1, 1), one)
	for i, f := range split(version(1, 2), two) {
		put(t, "parts", s, f, i == 3, api.OK)
		latch(t, "behind a part", s)
		latch(t, "behind a part, twice", s)
		want := subSeen{front: one, version: version(1, 1)}
		if i == 3 {
			want = subSeen{front: two, version: version(1, 2)}
		}
		subIs(t, "behind a part", s, want)
	}
}

// TestTheZeroVersionMayCome, as any other: the one in front has it, but not of a value that came.
func TestTheZeroVersionMayCome(t *testing.T) {
	one, two := ramp(20, 'a', 1), ramp(20, 'A', 1)
	s := freshSub(t, 20, "first")
	arrives(t, "the zero version", s, api.Version{}, one)
	latch(t, "the zero version", s)
	subIs(t, "the zero version", s, subSeen{front: one})
	refused(t, "the zero version, twice", s, split(api.Version{}, two)[0], api.ErrTwice)
	arrives(t, "behind the zero version", s, version(0, 1), two)
	latch(t, "behind the zero version", s)
	subIs(t, "behind the zero version", s, subSeen{front: two, version: version(0, 1)})
}

// full is a frame that has something in each field.
func full() api.Frame {
	return api.Frame{
		Kind: api.Leave, Src: 7, Dst: 9, SrcInc: 300, DstInc: 400, Epoch: api.Epoch{Count: 500, Addr: 11, Inc: 600}, Hop: 700,
		High: api.Epoch{Count: 800, Addr: 13, Inc: 900}, Wants: true,
		Block: 5, Version: version(1000, 70000), Part: 200, Parts: 201, Bytes: "what was there",
	}
}

// offers are all sorts of frames: some that may come, with each field at its ends.
func offers() []api.Frame {
	list := []api.Frame{
		{}, full(),
		{Src: 255}, {Dst: 255}, {SrcInc: 65535}, {DstInc: 65535}, {Epoch: api.Epoch{Count: 65535, Addr: 255, Inc: 65535}}, {Hop: 65535},
		{High: api.Epoch{Count: 65535, Addr: 255, Inc: 65535}}, {Wants: true}, {Block: 255},
		{Version: version(65535, 0)}, {Version: version(0, math.MaxUint32)}, {Part: 255}, {Parts: 255}, {Bytes: "\xff\x00"}, {Bytes: strings.Repeat("x", 70000)},
	}
	for _, f := range slices.Clone(list) {
		f.Kind = api.Data
		list = append(list, f)
	}
	for _, size := range []int{1, 16, 17, 40, 64} {
		for _, v := range []api.Version{{}, version(1, 1), version(65535, math.MaxUint32)} {
			list = append(list, split(v, ramp(size, 0, 1))...)
		}
	}
	for _, kind := range kinds() {
		for _, parts := range []uint8{0, 1, 3, 4, 5, 255} {
			for _, part := range []uint8{0, 3, 4, 8, 255} {
				list = append(list, api.Frame{Kind: kind, Parts: parts, Part: part}, api.Frame{Kind: kind, Parts: parts, Part: part, Bytes: ramp(16, 0, 1)})
			}
		}
	}
	return list
}

// texts are texts of all sorts of bytes and lengths.
func texts() []string {
	list := []string{"\xff\xfe", strings.Repeat("\x00", 64), strings.Repeat("\xff", 64), strings.Repeat("\xed\xa0\x80", 21), strings.Repeat("\u20ac", 5)}
	for _, n := range edgeLengths() {
		list = append(list, ramp(n, 3*n, 1))
	}
	return list
}

func TestNilPub(t *testing.T) {
	var p *Pub
	for _, value := range texts() {
		uncommitted(t, "nil", p, value, api.ErrArg)
		next(t, "nil", p, api.Frame{}, false)
		pubIs(t, "nil", p, pubSeen{})
	}
}

func TestNilSub(t *testing.T) {
	var s *Sub
	for _, f := range offers() {
		put(t, "nil", s, f, false, api.ErrArg)
		subIs(t, "nil", s, subSeen{})
		latch(t, "nil", s)
	}
}

// TestPubThatNewPubDidNotMake has no size, so that nothing is committed.
func TestPubThatNewPubDidNotMake(t *testing.T) {
	one, two := Pub{}, new(Pub)
	for _, p := range []*Pub{&one, two} {
		for _, value := range texts() {
			uncommitted(t, "no size", p, value, api.ErrLen)
			next(t, "no size", p, api.Frame{}, false)
			pubIs(t, "no size", p, pubSeen{})
		}
	}
	made := freshPub(t, 40, 3)
	commits(t, "a copy", made, ramp(40, 0, 1))
	made.Next()
	copied := *made
	goes(t, "a copy", &copied, split(version(3, 1), ramp(40, 0, 1))[1:])
	goes(t, "what was copied", made, split(version(3, 1), ramp(40, 0, 1))[1:])
}

// TestSubThatNewSubDidNotMake has no glue, so that nothing comes to it.
func TestSubThatNewSubDidNotMake(t *testing.T) {
	one, two := Sub{}, new(Sub)
	for _, s := range []*Sub{&one, two} {
		for _, f := range offers() {
			put(t, "no glue", s, f, false, api.ErrArg)
			subIs(t, "no glue", s, subSeen{})
			latch(t, "no glue", s)
		}
	}
	made := freshSub(t, 40, "first")
	copied := *made
	for _, f := range offers() {
		copied.Put(f)
		copied.Latch()
		seeSub(&copied)
		seeSub(made)
	}
}

// samePub commits n bytes with both, or with n below 0 asks both for the next part, and looks that they answer the same, and tell the same of themselves.
func samePub(t *testing.T, p *Pub, plain *plainPub, n, first int) {
	t.Helper()
	if n < 0 {
		f, ok := plain.next()
		next(t, "as the second way", p, f, ok)
	} else {
		value := ramp(n, first, 1)
		want := plain.commit(value)
		if e := p.Commit(value); e != want {
			t.Errorf("Commit(%q) = %d, want %d", value, e, want)
		}
	}
	if got, want := seePub(p), plain.seen(); got != want {
		t.Errorf("Last and Left = %+v, want %+v", got, want)
	}
}

// sameSub puts a frame in both, and looks that they answer the same, and tell the same of themselves.
func sameSub(t *testing.T, s *Sub, plain *plainSub, f api.Frame) (bool, api.Errno) {
	t.Helper()
	whole, e := plain.put(f)
	put(t, "as the second way", s, f, whole, e)
	if got, want := seeSub(s), plain.seen(); got != want {
		t.Errorf("behind Put(%+v): %+v, want %+v", f, got, want)
	}
	return whole, e
}

func sameLatch(t *testing.T, s *Sub, plain *plainSub) {
	t.Helper()
	want := plain.latch()
	if got := s.Latch(); got != want {
		t.Errorf("Latch = %v, want %v", got, want)
	}
	if got, want := seeSub(s), plain.seen(); got != want {
		t.Errorf("behind Latch: %+v, want %+v", got, want)
	}
}

// runs are all runs of up to most acts out of so many.
func runs(acts, most int) [][]int {
	list := [][]int{{}}
	for i := 0; i < len(list); i++ {
		for act := range acts {
			if len(list[i]) < most {
				list = append(list, append(slices.Clone(list[i]), act))
			}
		}
	}
	return list
}

// TestAllShortRunsOfAPub goes through all runs of up to nine acts: Next, Commit, and a Commit that is refused.
func TestAllShortRunsOfAPub(t *testing.T) {
	for _, size := range []int{5, 40} {
		for _, run := range runs(3, 9) {
			p, plain := freshPub(t, size, 6), &plainPub{size: size, inc: 6}
			for i, act := range run {
				samePub(t, p, plain, []int{-1, size, size + 1}[act], 50*i)
			}
		}
	}
}

// TestAllShortRunsOfASub goes through all runs of up to five acts: parts of two values, wrong ones, and Latch.
func TestAllShortRunsOfASub(t *testing.T) {
	one, two := ramp(20, 'a', 1), ramp(20, 'A', 1)
	a, b := split(version(1, 9), one), split(version(2, 0), two)
	strange, wrong := a[1], b[0]
	strange.Bytes, wrong.Parts = "?!?!", 1
	some := []api.Frame{a[0], a[1], b[0], b[1], strange, wrong, {Kind: api.Poll, Version: version(9, 9)}}
	for _, run := range runs(len(some)+1, 5) {
		s, plain := freshSub(t, 20, "first"), newPlainSub(20, "first")
		for _, act := range run {
			if act == len(some) {
				sameLatch(t, s, plain)
			} else {
				sameSub(t, s, plain, some[act])
			}
		}
	}
}

// dice draws numbers, the same ones each time.
type dice uint32

func (d *dice) roll(below int) int {
	*d = *d*1664525 + 1013904223
	return int(*d>>8) % below
}

// version draws one out of a few, many of them near one another, some at the ends.
func (d *dice) version() api.Version {
	if d.roll(20) == 0 {
		return version([]uint16{0, 1, 3, 65535}[d.roll(4)], []uint32{0, 1, 1 << 31, math.MaxUint32}[d.roll(4)])
	}
	return version(uint16(1+d.roll(2)), uint32(d.roll(6)))
}

// hurt changes a field of a frame, or leaves it as it is.
func (d *dice) hurt(f api.Frame) api.Frame {
	switch d.roll(24) {
	case 0:
		f.Kind = kinds()[d.roll(len(kinds()))]
	case 1:
		f.Parts = uint8(d.roll(6))
	case 2:
		f.Part = uint8(d.roll(6))
	case 3:
		f.Bytes = ramp(d.roll(20), d.roll(256), 1)
	case 4:
		f.Parts, f.Part = uint8(d.roll(256)), uint8(d.roll(256))
	case 5:
		f.Bytes = other(f.Bytes)
	}
	return f
}

// pubs draws a publisher and its second way: now and then such as are near the end of Seq.
func (d *dice) pubs(t *testing.T) (*Pub, *plainPub) {
	t.Helper()
	size, inc := 1+d.roll(64), incs()[d.roll(len(incs()))]
	if d.roll(4) > 0 {
		return freshPub(t, size, inc), &plainPub{size: size, inc: inc}
	}
	seq, value := math.MaxUint32-uint32(d.roll(5)), ramp(size, 1, 1)
	return near(t, value, inc, seq), &plainPub{size: size, inc: inc, ahead: seq - 1, values: []string{value}}
}

// act draws how many bytes are committed; -1: Next.
func (d *dice) act(size int) int {
	switch d.roll(8) {
	case 0:
		return d.roll(70)
	case 1, 2:
		return size
	}
	return -1
}

// TestDrawnRunsOfPubs holds many runs of acts against the second way.
func TestDrawnRunsOfPubs(t *testing.T) {
	d, turns, saturated := dice(18), 0, 0
	for range 20000 {
		p, plain := d.pubs(t)
		for range 5 + d.roll(40) {
			samePub(t, p, plain, d.act(plain.size), d.roll(256))
		}
		if plain.under > 1 {
			turns++
		}
		if plain.commit(ramp(plain.size, 0, 1)) == api.ErrSat {
			saturated++
		}
	}
	if turns < 5000 || saturated < 1000 {
		t.Errorf("a further value went %d times only, the end came %d times only", turns, saturated)
	}
}

// TestDrawnRunsOfSubs holds many runs of acts against the second way, and looks that all sorts of answers came.
func TestDrawnRunsOfSubs(t *testing.T) {
	d, seen, values := dice(181), map[api.Errno]int{}, 0
	for range 20000 {
		size, first := 1+d.roll(64), ramp(d.roll(80), d.roll(256), 1)
		s, plain := freshSub(t, size, first), newPlainSub(size, first)
		for range 5 + d.roll(40) {
			if d.roll(8) == 0 {
				sameLatch(t, s, plain)
				continue
			}
			frames := split(d.version(), ramp(size, d.roll(256), 1+d.roll(5)))
			_, e := sameSub(t, s, plain, d.hurt(frames[d.roll(len(frames))]))
			seen[e]++
		}
		values += len(plain.wholes) - 1
	}
	for _, e := range []api.Errno{api.OK, api.ErrKind, api.ErrForm, api.ErrArg, api.ErrTwice} {
		if seen[e] < 2000 {
			t.Errorf("%d came %d times only", e, seen[e])
		}
	}
	if values < 2000 {
		t.Errorf("%d values only", values)
	}
}

// TestDrawnRunsOfBoth lets publishers' frames go to subscribers, with some lost, some twice, some late, and holds all against the second ways.
func TestDrawnRunsOfBoth(t *testing.T) {
	d, values := dice(1818), 0
	for range 5000 {
		p, plain := d.pubs(t)
		s, plainS := freshSub(t, plain.size, "first"), newPlainSub(plain.size, "first")
		bag, lost := []api.Frame{}, 2+d.roll(30)
		for range 60 + d.roll(60) {
			switch d.roll(4) {
			case 0:
				samePub(t, p, plain, d.act(plain.size), d.roll(256))
			case 1:
				sameLatch(t, s, plainS)
			default:
				f, ok := p.Next()
				if g, is := plain.next(); f != g || ok != is {
					t.Errorf("Next = %+v, %v, want %+v, %v", f, ok, g, is)
				}
				if ok && d.roll(lost) > 0 {
					bag = append(bag, f)
				}
			}
			for len(bag) > d.roll(3) {
				i := d.roll(len(bag))
				sameSub(t, s, plainS, bag[i])
				if d.roll(5) > 0 {
					bag = slices.Delete(bag, i, i+1)
				}
			}
		}
		values += len(plainS.wholes) - 1
	}
	if values < 5000 {
		t.Errorf("%d values only", values)
	}
}

// drawn tells versions that were committed, each with its value: rising, falling, or mixed, some of them alike.
func (d *dice) drawn(size int) ([]api.Version, map[api.Version]string) {
	list, values := []api.Version{}, map[api.Version]string{}
	for range 1 + d.roll(8) {
		v := d.version()
		list = append(list, v)
		values[v] = ramp(size, d.roll(256), 1+2*d.roll(20))
	}
	switch d.roll(3) {
	case 0:
		slices.SortFunc(list, plainCompare)
	case 1:
		slices.SortFunc(list, func(a, b api.Version) int { return plainCompare(b, a) })
	}
	return list, values
}

// parcel tells the frames of all these, some left out and some twice, in their order, or near it, or mixed.
func (d *dice) parcel(list []api.Version, values map[api.Version]string) []api.Frame {
	frames, lost, twice := []api.Frame{}, 2+d.roll(30), 2+d.roll(30)
	for _, v := range list {
		for _, f := range split(v, values[v]) {
			if d.roll(lost) == 0 {
				continue
			}
			frames = append(frames, f)
			if d.roll(twice) == 0 {
				frames = append(frames, f)
			}
		}
	}
	far := []int{1, 3, 100}[d.roll(3)]
	for i := range frames {
		k := min(i+d.roll(far), len(frames)-1)
		frames[i], frames[k] = frames[k], frames[i]
	}
	return frames
}

// TestWhatIsInFrontIsWhole holds P18.2 by itself, without the second way.
func TestWhatIsInFrontIsWhole(t *testing.T) {
	d, came, stayed := dice(182), 0, 0
	for range 20000 {
		size := 1 + d.roll(64)
		list, values := d.drawn(size)
		s, often := freshSub(t, size, "first"), 1+d.roll(6)
		first, was := s.Front()
		changed := false
		for i, f := range d.parcel(list, values) {
			whole, _ := s.Put(f)
			if d.roll(often) == 0 && s.Latch() {
				changed = true
			}
			front, v := s.Front()
			if plainCompare(v, was) < 0 {
				t.Fatalf("frame %d: version %v in front, behind %v", i, v, was)
			}
			was = v
			if changed && front != values[v] || !changed && (front != first || v != api.Version{}) {
				t.Fatalf("frame %d: %q in front as %v, want %q", i, front, v, values[v])
			}
			if behind, w, ok := s.Waits(); ok && (behind != values[w] || plainCompare(w, v) < 0 || changed && w == v) || whole && !ok && !changed {
				t.Fatalf("frame %d: %q waits as %v, %v, behind %v", i, behind, w, ok, v)
			}
		}
		if changed {
			came++
		} else {
			stayed++
		}
		if s.Fault() {
			t.Errorf("a fault, without a wrong form")
		}
	}
	if came < 3000 || stayed < 1000 {
		t.Errorf("%d times one came, %d times none", came, stayed)
	}
}

// TestFromPubsToASub holds P18.2 of publishers of rising incarnations, whose frames are lost, doubled and late: a station that boots again.
func TestFromPubsToASub(t *testing.T) {
	d, fronts := dice(1822), 0
	for range 3000 {
		size := 1 + d.roll(64)
		s, values, bag := freshSub(t, size, "first"), map[api.Version]string{}, []api.Frame{}
		first, was := s.Front()
		values[was] = first
		for inc := range uint16(3) {
			p := freshPub(t, size, inc)
			for range 40 {
				if d.roll(5) == 0 {
					value := ramp(size, d.roll(256), 1+2*d.roll(9))
					commits(t, "of pubs", p, value)
					_, v, _ := p.Last()
					values[v] = value
				}
				if f, ok := p.Next(); ok && d.roll(12) > 0 {
					bag = append(bag, f)
				}
				for range d.roll(3) {
					if len(bag) > 0 {
						i := max(0, len(bag)-1-d.roll(8))
						s.Put(bag[i])
					}
				}
				if d.roll(4) == 0 && s.Latch() {
					fronts++
				}
				front, v := s.Front()
				if value, ok := values[v]; !ok || value != front || plainCompare(v, was) < 0 {
					t.Fatalf("%q in front as %v, behind %v, want %q, %v", front, v, was, value, ok)
				}
				was = v
			}
		}
	}
	if fronts < 5000 {
		t.Errorf("%d came in front only", fronts)
	}
}

// TestWhatIsThereComes: where nothing is lost, each turn of a publisher's brings the newest value, whatever was lost ahead of it.
func TestWhatIsThereComes(t *testing.T) {
	d := dice(1823)
	for range 3000 {
		size := 1 + d.roll(64)
		p, s := freshPub(t, size, 1), freshSub(t, size, "first")
		for range d.roll(20) {
			commits(t, "ahead", p, ramp(size, d.roll(256), 1))
			if f, ok := p.Next(); ok && d.roll(2) == 0 {
				s.Put(f)
			}
		}
		value := ramp(size, d.roll(256), 3)
		commits(t, "the newest", p, value)
		for p.Left() > 0 {
			p.Next()
		}
		for range (size + 15) / 16 {
			f, _ := p.Next()
			s.Put(f)
		}
		s.Latch()
		_, want, _ := p.Last()
		if front, v := s.Front(); front != value || v != want {
			t.Errorf("%q in front as %v, want %q, %v", front, v, value, want)
		}
	}
}

// TestTwoPubsPlayNoPartForOneAnother runs many at once, and holds all against the second way behind each act.
func TestTwoPubsPlayNoPartForOneAnother(t *testing.T) {
	d := dice(2)
	for range 500 {
		list, plains := []*Pub{}, []*plainPub{}
		for range 6 {
			p, plain := d.pubs(t)
			twin, plainTwin := freshPub(t, plain.size, plain.inc), &plainPub{size: plain.size, inc: plain.inc}
			list, plains = append(list, p, twin), append(plains, plain, plainTwin)
		}
		for range 100 {
			i := d.roll(len(list))
			samePub(t, list[i], plains[i], d.act(plains[i].size), d.roll(256))
			for k, p := range list {
				if got, want := seePub(p), plains[k].seen(); got != want {
					t.Fatalf("publisher %d: %+v, want %+v", k, got, want)
				}
			}
		}
	}
}

// TestTwoSubsPlayNoPartForOneAnother runs many at once, and holds all against the second way behind each act.
func TestTwoSubsPlayNoPartForOneAnother(t *testing.T) {
	d := dice(22)
	for range 500 {
		list, plains := []*Sub{}, []*plainSub{}
		for range 6 {
			size := 1 + d.roll(64)
			for range 2 {
				list, plains = append(list, freshSub(t, size, "first")), append(plains, newPlainSub(size, "first"))
			}
		}
		for range 100 {
			i := d.roll(len(list))
			frames := split(d.version(), ramp(plains[i].size, d.roll(256), 1))
			if d.roll(8) == 0 {
				sameLatch(t, list[i], plains[i])
			} else {
				sameSub(t, list[i], plains[i], d.hurt(frames[d.roll(len(frames))]))
			}
			for k, s := range list {
				if got, want := seeSub(s), plains[k].seen(); got != want {
					t.Fatalf("subscriber %d: %+v, want %+v", k, got, want)
				}
			}
		}
	}
}

// TestEveryCallEnds holds P0 and R7: each call answers at all arguments, and the same once more.
func TestEveryCallEnds(t *testing.T) {
	for _, size := range edgeSizes() {
		for _, value := range texts() {
			p, twin, s := NewPub(size, 9), NewPub(size, 9), NewSub(size, value)
			if (p == nil) != (s == nil) || (p == nil) != (size < 1 || size > 64) {
				t.Errorf("size %d: nil is %v, %v", size, p == nil, s == nil)
			}
			for range 3 {
				if e, f := p.Commit(value), twin.Commit(value); e != f {
					t.Errorf("Commit(%q): two answers, %d and %d", value, e, f)
				}
				f, ok := p.Next()
				next(t, "the same once more", twin, f, ok)
				pubIs(t, "the same once more", twin, seePub(p))
			}
			subIs(t, "the same once more", NewSub(size, value), seeSub(s))
		}
		s, twin := NewSub(size, "x"), NewSub(size, "x")
		for i, f := range offers() {
			whole, e := s.Put(f)
			put(t, "the same once more", twin, f, whole, e)
			if i%7 == 0 && s.Latch() != twin.Latch() {
				t.Error("Latch: two answers")
			}
			subIs(t, "the same once more", twin, seeSub(s))
		}
	}
}

// TestWhatIsGivenIsNotKept changes what a call was given behind it: nothing that was told of it changes.
func TestWhatIsGivenIsNotKept(t *testing.T) {
	p, bytes := freshPub(t, 40, 1), []byte(ramp(40, 'a', 1))
	value := string(bytes)
	commits(t, "given", p, value)
	clear(bytes)
	f, _ := p.Next()
	f.Version, f.Part, f.Parts, f.Kind, f.Bytes = version(9, 9), 9, 9, 9, "?"
	if value != ramp(40, 'a', 1) {
		t.Errorf("the value that was committed is %q", value)
	}
	goes(t, "behind the change", p, split(version(1, 1), value)[1:])
	s, frames := freshSub(t, 40, value), split(version(1, 1), value)
	kept := slices.Clone(frames)
	for i := range frames {
		g := &frames[i]
		put(t, "given", s, *g, i == 2, api.OK)
		if !slices.Equal(frames, kept) {
			t.Errorf("%+v, was %+v", frames, kept)
		}
		g.Version, g.Bytes, g.Part, g.Kind = version(9, 9), other(g.Bytes), 7, api.Token
		kept = slices.Clone(frames)
	}
	subIs(t, "behind the change", s, subSeen{front: value, behind: value, waiting: version(1, 1), waits: true})
}

// TestAPieceOfALongTextIsCommitted, and is as any other value.
func TestAPieceOfALongTextIsCommitted(t *testing.T) {
	long := ramp(1<<16, 0, 1)
	p := freshPub(t, 40, 1)
	commits(t, "a piece", p, long[100:140])
	pubIs(t, "a piece", p, pubSeen{ramp(40, 100, 1), version(1, 1), true, 0})
	subIs(t, "a piece", freshSub(t, 40, long[200:]), subSeen{front: ramp(40, 200, 1)})
}

// TestWhatWasAnsweredStays holds P0: no later call changes it.
func TestWhatWasAnsweredStays(t *testing.T) {
	p, s := freshPub(t, 50, 4), freshSub(t, 50, "first")
	lasts, frames, fronts := []pubSeen{}, []api.Frame{}, []subSeen{}
	for i := range 6 {
		commits(t, "answered", p, ramp(50, 40*i, 1))
		lasts = append(lasts, seePub(p))
		for range 4 {
			f, _ := p.Next()
			frames = append(frames, f)
			s.Put(f)
			fronts = append(fronts, seeSub(s))
		}
		s.Latch()
	}
	for i := range 6 {
		value, v := ramp(50, 40*i, 1), version(4, uint32(i+1))
		if lasts[i] != (pubSeen{value, v, true, 0}) {
			t.Errorf("answer %d: %+v", i, lasts[i])
		}
		if !slices.Equal(frames[4*i:4*i+4], split(v, value)) {
			t.Errorf("frames %d: %+v", i, frames[4*i:4*i+4])
		}
		want := subSeen{front: "first" + strings.Repeat("\x00", 45)}
		if i > 0 {
			want = subSeen{front: ramp(50, 40*(i-1), 1), version: version(4, uint32(i))}
		}
		for k := range 4 {
			if k == 3 {
				want.behind, want.waiting, want.waits = value, v, true
			}
			if fronts[4*i+k] != want {
				t.Errorf("answer %d, part %d: %+v, want %+v", i, k, fronts[4*i+k], want)
			}
		}
	}
}
