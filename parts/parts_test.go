package parts

import (
	"cmp"
	"math"
	"slices"
	"strconv"
	"strings"
	"testing"

	"fugleman/api"
)

// version tells a version by its Inc and its Seq.
func version(inc uint16, seq uint32) api.Version {
	return api.Version{Inc: inc, Seq: seq}
}

// versions are versions that rise: the ends of Inc and Seq, some in between, and all of these with one another.
func versions() []api.Version {
	list := []api.Version{}
	for _, inc := range []uint16{0, 1, 2, 127, 128, 255, 256, 257, 32767, 32768, 65534, 65535} {
		for _, seq := range []uint32{0, 1, 2, 255, 256, 65535, 65536, 65537, 1<<31 - 1, 1 << 31, 1<<32 - 2, 1<<32 - 1} {
			list = append(list, version(inc, seq))
		}
	}
	return list
}

// ramp tells a text of n bytes, from a first one on, each greater by step than the one ahead.
func ramp(n, first, step int) string {
	bytes := make([]byte, n)
	for i := range bytes {
		bytes[i] = byte(first + i*step)
	}
	return string(bytes)
}

// edgeSizes are numbers at the ends of int and of what a size may be, many of those that may not be with one that may be in their lowest bits.
func edgeSizes() []int {
	list := []int{
		math.MinInt, math.MinInt + 1, math.MinInt + 40, -1<<32 + 40, -1 << 32, -1 << 31, -65536 + 40, -256 + 40, -256, -65, -64, -40, -16,
		100, 127, 128, 255, 256, 257, 256 + 40, 65536, 65536 + 40, 1<<31 - 1, 1 << 31, 1<<32 - 1, 1 << 32, 1<<32 + 40, math.MaxInt - 15, math.MaxInt - 1, math.MaxInt,
	}
	for size := -1; size <= 66; size++ {
		list = append(list, size)
	}
	return list
}

// kinds are those that a frame may have, and numbers that are none, some with Data in their lowest bits.
func kinds() []int {
	return []int{
		api.Token, api.Poll, api.Status, api.Data, api.Leave,
		0, 6, -1, -4, 255, 256, 256 + 4, -256 + 4, 1<<16 + 4, 1<<32 + 4, -1<<32 + 4, math.MinInt, math.MinInt + 4, math.MaxInt,
	}
}

// The plain ones below go by the words of the chapter, in another way.

// plainCompare holds versions against each other as one number.
func plainCompare(a, b api.Version) int {
	one, other := uint64(a.Inc)<<32+uint64(a.Seq), uint64(b.Inc)<<32+uint64(b.Seq)
	switch {
	case one < other:
		return -1
	case one > other:
		return 1
	}
	return 0
}

// plainParts deals out a value's bytes one by one, each into a new part where the last one has 16.
func plainParts(value string) []string {
	list := []string{}
	if len(value) > 64 {
		return list
	}
	for i := range len(value) {
		if i%16 == 0 {
			list = append(list, "")
		}
		list[len(list)-1] += value[i : i+1]
	}
	return list
}

// plainGlue has a value of its size, and all frames that came of the version that it is at.
type plainGlue struct {
	some string
	came []api.Frame
}

func newPlain(size int) *plainGlue {
	return &plainGlue{some: strings.Repeat("?", size)}
}

// put finds the last error that applies first, and the first one last.
func (g *plainGlue) put(f api.Frame) (string, bool, api.Errno) {
	e, same, all := api.OK, []api.Frame{}, plainParts(g.some)
	for _, c := range g.came {
		switch plainCompare(c.Version, f.Version) {
		case 0:
			same = append(same, c)
			if c.Part == f.Part {
				e = api.ErrTwice
			}
		case 1:
			e = api.ErrArg
		}
	}
	if int(f.Parts) != len(all) || int(f.Part) > len(all)-1 || len(f.Bytes) != len(all[f.Part]) {
		e = api.ErrForm
	}
	if f.Kind != 4 {
		e = api.ErrKind
	}
	if e != api.OK {
		return "", false, e
	}
	g.came = append(same, f)
	if len(g.came) != len(all) {
		return "", false, api.OK
	}
	slices.SortFunc(g.came, func(a, b api.Frame) int { return cmp.Compare(a.Part, b.Part) })
	value := ""
	for _, c := range g.came {
		value += c.Bytes
	}
	return value, true, api.OK
}

func (g *plainGlue) at() (api.Version, int, bool) {
	if len(g.came) == 0 {
		return api.Version{}, 0, false
	}
	return g.came[0].Version, len(g.came), true
}

// The checks below ask a call, and tell what it answers otherwise than it should.

func put(t *testing.T, what string, g *Glue, f api.Frame, want string, wantOK bool, wantE api.Errno) {
	t.Helper()
	if s, ok, e := g.Put(f); s != want || ok != wantOK || e != wantE {
		t.Errorf("%s: Put(%+v) = %q, %v, %d, want %q, %v, %d", what, f, s, ok, e, want, wantOK, wantE)
	}
}

// comes puts a frame that isn't refused and isn't the last one.
func comes(t *testing.T, what string, g *Glue, f api.Frame) {
	t.Helper()
	put(t, what, g, f, "", false, api.OK)
}

// done puts a frame that is the last one.
func done(t *testing.T, what string, g *Glue, f api.Frame, want string) {
	t.Helper()
	put(t, what, g, f, want, true, api.OK)
}

// refused puts a frame that is refused, and looks that At stays as it was.
func refused(t *testing.T, what string, g *Glue, f api.Frame, want api.Errno) {
	t.Helper()
	v, n, ok := g.At()
	put(t, what, g, f, "", false, want)
	if w, m, is := g.At(); w != v || m != n || is != ok {
		t.Errorf("%s: behind Put(%+v), which was refused, At = %v, %d, %v, was %v, %d, %v", what, f, w, m, is, v, n, ok)
	}
}

func at(t *testing.T, what string, g *Glue, want api.Version, wantN int) {
	t.Helper()
	if v, n, ok := g.At(); v != want || n != wantN || !ok {
		t.Errorf("%s: At = %v, %d, %v, want %v, %d, true", what, v, n, ok, want, wantN)
	}
}

func atNone(t *testing.T, what string, g *Glue) {
	t.Helper()
	if v, n, ok := g.At(); v != (api.Version{}) || n != 0 || ok {
		t.Errorf("%s: At = %v, %d, %v, want none", what, v, n, ok)
	}
}

// fresh tells a new glue of a size that may be.
func fresh(t *testing.T, size int) *Glue {
	t.Helper()
	g := New(size)
	if g == nil {
		t.Fatalf("New(%d) = nil", size)
	}
	return g
}

// split tells the frames of a value by the words of the chapter, of a frame with all fields set.
func split(v api.Version, value string) []api.Frame {
	list := []api.Frame{}
	all := plainParts(value)
	for part, bytes := range all {
		f := full()
		f.Kind, f.Version, f.Part, f.Parts, f.Bytes = api.Data, v, uint8(part), uint8(len(all)), bytes
		list = append(list, f)
	}
	return list
}

// full is a frame that has something in each field.
func full() api.Frame {
	return api.Frame{
		Kind: api.Leave, Src: 7, Dst: 9, SrcInc: 300, DstInc: 400, Epoch: api.Epoch{Count: 500, Addr: 11, Inc: 600}, Hop: 700,
		High: api.Epoch{Count: 800, Addr: 13, Inc: 900}, Wants: true,
		Block: 5, Version: version(1000, 70000), Part: 200, Parts: 201, Bytes: "what was there",
	}
}

// orders are all orders of the numbers below n.
func orders(n int) [][]int {
	if n == 0 {
		return [][]int{{}}
	}
	list := [][]int{}
	for _, short := range orders(n - 1) {
		for i := range n {
			list = append(list, slices.Insert(slices.Clone(short), i, n-1))
		}
	}
	return list
}

// TestTheExample is that of the chapter.
func TestTheExample(t *testing.T) {
	one, two := ramp(20, 'a', 1), ramp(20, 'A', 1)
	g, old, young := fresh(t, 20), split(version(0, 1), one), split(version(0, 2), two)
	comes(t, "the example", g, young[1])
	done(t, "the example", g, young[0], two)
	refused(t, "the example", g, old[0], api.ErrArg)
	refused(t, "the example", g, old[1], api.ErrArg)
}

func TestCompare(t *testing.T) {
	for _, c := range []struct {
		name string
		a, b api.Version
		want int
	}{
		{"zero", version(0, 0), version(0, 0), 0},
		{"equal", version(3, 4), version(3, 4), 0},
		{"less by Seq", version(3, 4), version(3, 5), -1},
		{"less by Inc", version(3, 4), version(4, 4), -1},
		{"less by Inc, with a greater Seq", version(3, 5), version(4, 4), -1},
		{"less by Inc, with the greatest Seq", version(0, math.MaxUint32), version(1, 0), -1},
		{"not by the sum", version(1, 100), version(2, 1), -1},
		{"not by its lowest byte", version(256, 0), version(1, 0), 1},
		{"not by its lowest bits", version(0, 65536), version(0, 1), 1},
		{"not as with a sign, Inc", version(32768, 0), version(1, 0), 1},
		{"not as with a sign, Seq", version(0, 1<<31), version(0, 1), 1},
		{"the ends don't wrap round, Inc", version(65535, 0), version(0, 0), 1},
		{"the ends don't wrap round, Seq", version(0, math.MaxUint32), version(0, 0), 1},
	} {
		if got := Compare(c.a, c.b); got != c.want {
			t.Errorf("%s: Compare(%v, %v) = %d, want %d", c.name, c.a, c.b, got, c.want)
		}
		if got := Compare(c.b, c.a); got != -c.want {
			t.Errorf("%s: Compare(%v, %v) = %d, want %d", c.name, c.b, c.a, got, -c.want)
		}
	}
}

// TestCompareOfAllPairs goes by their places, as they rise.
func TestCompareOfAllPairs(t *testing.T) {
	list := versions()
	for i, a := range list {
		for k, b := range list {
			want := 0
			if i < k {
				want = -1
			} else if i > k {
				want = 1
			}
			if got := Compare(a, b); got != want || got != -Compare(b, a) || got != plainCompare(a, b) {
				t.Errorf("Compare(%v, %v) = %d, want %d", a, b, got, want)
			}
		}
	}
}

func TestNew(t *testing.T) {
	for _, size := range edgeSizes() {
		g := New(size)
		if (g != nil) != (1 <= size && size <= 64) {
			t.Errorf("New(%d): nil is %v", size, g == nil)
		}
		if g == nil {
			continue
		}
		atNone(t, "a new one", g)
		if again := New(size); again == g {
			t.Errorf("New(%d): the same glue twice", size)
		}
	}
}

// TestNewIsOfThatSize offers each glue the frames of values of each size: those of its own are taken alone.
func TestNewIsOfThatSize(t *testing.T) {
	for size := 1; size <= 64; size++ {
		for other := 1; other <= 64; other++ {
			g, value := fresh(t, size), ramp(other, size, 3)
			s, whole := "", false
			for _, f := range split(version(1, 1), value) {
				s, whole, _ = g.Put(f)
			}
			if whole != (size == other) || whole && s != value {
				t.Errorf("size %d, frames of a value of %d bytes: %q, %v", size, other, s, whole)
			}
		}
	}
}

// TestPutInEachOrder has all parts of a value of each size in all orders, each once.
func TestPutInEachOrder(t *testing.T) {
	for size := 1; size <= 64; size++ {
		for _, v := range []api.Version{{}, version(2, 3), version(0, 1), version(1, 0), version(65535, math.MaxUint32)} {
			for i, order := range orders(len(plainParts(ramp(size, 0, 1)))) {
				g, value := fresh(t, size), ramp(size, 11*i+size, 5)
				frames := split(v, value)
				what := strconv.Itoa(size) + " bytes"
				for n, part := range order {
					if n == len(order)-1 {
						done(t, what, g, frames[part], value)
					} else {
						comes(t, what, g, frames[part])
					}
					at(t, what, g, v, n+1)
				}
			}
		}
	}
}

// other tells a text of as many bytes as s has, none of which is as in s.
func other(s string) string {
	bytes := []byte(s)
	for i := range bytes {
		bytes[i] ^= 0x5a
	}
	return string(bytes)
}

// TestPutOfPartsTwice offers each part that came once more behind each part, with the same bytes and with others: the one that came first is told.
func TestPutOfPartsTwice(t *testing.T) {
	for size := 1; size <= 64; size++ {
		for _, v := range []api.Version{{}, version(2, 3)} {
			for _, order := range orders(len(plainParts(ramp(size, 0, 1)))) {
				g, value := fresh(t, size), ramp(size, size, 7)
				frames := split(v, value)
				what := strconv.Itoa(size) + " bytes, twice"
				for n, part := range order {
					if n == len(order)-1 {
						done(t, what, g, frames[part], value)
					} else {
						comes(t, what, g, frames[part])
					}
					for _, came := range order[:n+1] {
						f := frames[came]
						refused(t, what, g, f, api.ErrTwice)
						f.Bytes = other(f.Bytes)
						refused(t, what, g, f, api.ErrTwice)
						f.Src, f.Block, f.SrcInc = f.Src+1, f.Block+1, f.SrcInc+1
						refused(t, what, g, f, api.ErrTwice)
					}
					at(t, what, g, v, n+1)
				}
			}
		}
	}
}

// TestWhatElseAFrameHasIsNotAsked: neither who sent it, nor of which block it is.
func TestWhatElseAFrameHasIsNotAsked(t *testing.T) {
	value := ramp(33, 'a', 1)
	frames := split(version(4, 4), value)
	frames[1] = api.Frame{Kind: api.Data, Version: version(4, 4), Part: 1, Parts: 3, Bytes: frames[1].Bytes}
	frames[2].Src, frames[2].Block, frames[2].Dst, frames[2].Hop, frames[2].Wants = 255, 255, 255, 65535, false
	g := fresh(t, 33)
	comes(t, "all set", g, frames[0])
	comes(t, "nothing else", g, frames[1])
	done(t, "other things", g, frames[2], value)
}

// places are glues of a size with some parts of value that came as version v: with none, and with all the parts of each set.
func places(t *testing.T, v api.Version, value string) []*Glue {
	t.Helper()
	frames, list := split(v, value), []*Glue{}
	for set := range 1 << len(frames) {
		g := fresh(t, len(value))
		for part, f := range frames {
			if set>>part&1 != 0 {
				g.Put(f)
			}
		}
		list = append(list, g)
	}
	return list
}

// finishes puts the parts that are missing, and looks that value comes of it.
func finishes(t *testing.T, what string, g *Glue, v api.Version, value string) {
	t.Helper()
	frames, missing := split(v, value), -1
	for part, f := range frames {
		switch s, whole, e := g.Put(f); {
		case whole && (s != value || missing >= 0):
			t.Errorf("%s: behind part %d the value is %q, want %q", what, part, s, value)
		case whole:
			missing = part
		case e != api.OK && e != api.ErrTwice:
			t.Errorf("%s: part %d: error %d", what, part, e)
		}
	}
	at(t, what, g, v, len(frames))
}

// wrongForms are ways in which a frame that has the given part of a value of size has no form.
func wrongForms(size, part int) []func(f *api.Frame) {
	list := []func(f *api.Frame){}
	all := plainParts(ramp(size, 0, 1))
	for n := range 256 {
		if n != len(all) {
			list = append(list, func(f *api.Frame) { f.Parts = uint8(n) })
		}
		if n >= len(all) {
			list = append(list, func(f *api.Frame) { f.Part = uint8(n) })
			// One that would be there, if there were as many as the frame says.
			list = append(list, func(f *api.Frame) { f.Part, f.Parts = uint8(n), uint8(n+1) })
			list = append(list, func(f *api.Frame) { f.Part, f.Bytes = uint8(n), "" })
		}
		if n < 70 && n != len(all[part]) {
			list = append(list, func(f *api.Frame) { f.Bytes = ramp(n, 50, 1) })
		}
	}
	for _, n := range []int{256, 257, 256 + 16, 65536 + 16} {
		list = append(list, func(f *api.Frame) { f.Bytes = ramp(n, 50, 1) })
	}
	return list
}

// TestPutOfWrongKinds has nothing else wrong, of each version, at each place of a value's way.
func TestPutOfWrongKinds(t *testing.T) {
	v, value := version(5, 5), ramp(40, 'a', 1)
	for _, kind := range kinds() {
		if kind == api.Data {
			continue
		}
		for _, w := range []api.Version{{}, version(5, 4), v, version(5, 6), version(6, 0)} {
			for part := range 3 {
				for _, g := range places(t, v, value) {
					f := split(w, value)[part]
					f.Kind = kind
					refused(t, "a wrong kind", g, f, api.ErrKind)
					finishesUnlessDone(t, "behind a wrong kind", g, v, value)
				}
			}
		}
	}
}

// finishesUnlessDone looks that a value which was told isn't told once more, and puts together one that wasn't.
func finishesUnlessDone(t *testing.T, what string, g *Glue, v api.Version, value string) {
	t.Helper()
	if w, n, _ := g.At(); n < len(plainParts(value)) || w != v {
		finishes(t, what, g, v, value)
		return
	}
	for _, f := range split(v, value) {
		refused(t, what, g, f, api.ErrTwice)
	}
}

// TestPutOfWrongForms has nothing else wrong: each number of parts but the right one, each part that isn't there, each length but the right one.
func TestPutOfWrongForms(t *testing.T) {
	v := version(5, 5)
	for _, size := range []int{1, 2, 8, 15, 16, 17, 31, 32, 33, 40, 48, 49, 63, 64} {
		value := ramp(size, size, 1)
		for part := range plainParts(value) {
			for i, wrong := range wrongForms(size, part) {
				glues := places(t, v, value)
				g := glues[i%len(glues)]
				what := strconv.Itoa(size) + " bytes, wrong form " + strconv.Itoa(i)
				f := split(v, value)[part]
				wrong(&f)
				refused(t, what, g, f, api.ErrForm)
				finishesUnlessDone(t, what, g, v, value)
			}
		}
	}
}

// TestPutOfAnotherPartsLength has bytes of the last part in another one, and of another one in the last part.
func TestPutOfAnotherPartsLength(t *testing.T) {
	for size := 1; size <= 64; size++ {
		value := ramp(size, 100, 1)
		frames := split(version(1, 1), value)
		for i, one := range frames {
			for _, another := range frames {
				g := fresh(t, size)
				f := one
				f.Bytes = another.Bytes
				switch {
				case len(one.Bytes) != len(another.Bytes):
					refused(t, "another part's length", g, f, api.ErrForm)
					atNone(t, "another part's length", g)
				case len(frames) > 1:
					comes(t, "another part's bytes of the same length", g, f)
				default:
					done(t, "part "+strconv.Itoa(i), g, f, value)
				}
			}
		}
	}
}

// TestPutOfVersions puts a part of one version, then another one of each other one, of values of two parts.
func TestPutOfVersions(t *testing.T) {
	one, two := ramp(30, 'a', 1), ramp(30, 'A', 1)
	for _, a := range versions() {
		for _, b := range versions() {
			g := fresh(t, 30)
			comes(t, "the first", g, split(a, one)[0])
			f := split(b, two)[1]
			switch plainCompare(a, b) {
			case 1:
				refused(t, "less", g, f, api.ErrArg)
				done(t, "behind a lesser one", g, split(a, one)[1], one)
			case 0:
				done(t, "equal", g, f, one[:16]+two[16:])
			case -1:
				comes(t, "greater", g, f)
				at(t, "greater", g, b, 1)
				refused(t, "now less", g, split(a, one)[1], api.ErrArg)
				done(t, "behind a greater one", g, split(b, two)[0], two)
				at(t, "behind a greater one", g, b, 2)
			}
		}
	}
}

// TestPutOfVersionsOfOnePart is about values that are done at once.
func TestPutOfVersionsOfOnePart(t *testing.T) {
	for _, a := range versions() {
		for _, b := range versions() {
			g := fresh(t, 3)
			done(t, "the first", g, split(a, "abc")[0], "abc")
			f := split(b, "xyz")[0]
			switch plainCompare(a, b) {
			case 1:
				refused(t, "less", g, f, api.ErrArg)
			case 0:
				refused(t, "equal", g, f, api.ErrTwice)
			case -1:
				done(t, "greater", g, f, "xyz")
				at(t, "greater", g, b, 1)
			}
		}
	}
}

// TestAGreaterVersion comes ahead of the first part, behind each further one, and behind the last one: nothing of the one ahead is left.
func TestAGreaterVersion(t *testing.T) {
	for size := 1; size <= 64; size++ {
		one, two := ramp(size, 0, 1), ramp(size, 128, 1)
		v, w := version(3, 9), version(4, 1)
		for set, g := range places(t, v, one) {
			young := split(w, two)
			for first := range young {
				twin := places(t, v, one)[set]
				order := append([]int{first}, slices.DeleteFunc([]int{0, 1, 2, 3}[:len(young)], func(p int) bool { return p == first })...)
				for n, part := range order {
					if n == len(order)-1 {
						done(t, "greater", twin, young[part], two)
					} else {
						comes(t, "greater", twin, young[part])
					}
					at(t, "greater", twin, w, n+1)
					for _, f := range split(v, one) {
						refused(t, "left behind", twin, f, api.ErrArg)
					}
				}
			}
			finishesUnlessDone(t, "no greater one", g, v, one)
		}
	}
}

// TestWhichErrorComesFirst has all that may be wrong with a frame in all mixtures, at a glue that is under way and at one that is done.
func TestWhichErrorComesFirst(t *testing.T) {
	v, value := version(5, 5), ramp(40, 'a', 1)
	forms := []func(f *api.Frame){
		func(f *api.Frame) { f.Parts = 2 },
		func(f *api.Frame) { f.Parts = 4 },
		func(f *api.Frame) { f.Part = 3 },
		func(f *api.Frame) { f.Bytes = "" },
		func(f *api.Frame) { f.Bytes += "x" },
		func(f *api.Frame) { f.Parts, f.Part, f.Bytes = 0, 255, "" },
	}
	for set, g := range places(t, v, value) {
		for part := range 3 {
			for _, kind := range kinds() {
				for i := range len(forms) + 1 {
					for _, w := range []api.Version{{}, version(4, 900), version(5, 4), v, version(5, 6), version(6, 0)} {
						f := split(w, value)[part]
						f.Kind = kind
						want := api.OK
						if plainCompare(w, v) == 0 && set>>part&1 != 0 {
							want = api.ErrTwice
						}
						if plainCompare(w, v) < 0 && set != 0 {
							want = api.ErrArg
						}
						if i < len(forms) {
							forms[i](&f)
							want = api.ErrForm
						}
						if kind != api.Data {
							want = api.ErrKind
						}
						if want != api.OK {
							refused(t, "mixed", g, f, want)
						}
						put(t, "nil", nil, f, "", false, api.ErrArg)
					}
				}
			}
		}
		finishesUnlessDone(t, "behind all that", g, v, value)
	}
}

// TestWhatIsRefusedChangesNothing offers all sorts of wrong frames, those of greater versions too, between all parts.
func TestWhatIsRefusedChangesNothing(t *testing.T) {
	for size := 1; size <= 64; size++ {
		value := ramp(size, size, 11)
		v := version(7, 7)
		g, frames := fresh(t, size), split(v, value)
		for n, f := range frames {
			for part := range frames {
				for _, w := range []api.Version{{}, v, version(7, 8), version(8, 0), version(65535, math.MaxUint32)} {
					wrong := split(w, other(value))[part]
					wrong.Kind = api.Status
					refused(t, "a wrong kind", g, wrong, api.ErrKind)
					wrong = split(w, other(value))[part]
					wrong.Parts++
					refused(t, "a part too many", g, wrong, api.ErrForm)
					wrong = split(w, other(value))[part]
					wrong.Bytes += "x"
					refused(t, "a byte too many", g, wrong, api.ErrForm)
					wrong = split(w, other(value))[part]
					wrong.Part = uint8(len(frames))
					refused(t, "a part beyond the last one", g, wrong, api.ErrForm)
				}
				if n > 0 {
					refused(t, "a lesser version", g, split(version(7, 6), other(value))[part], api.ErrArg)
				}
				if part < n {
					refused(t, "a part twice", g, split(v, other(value))[part], api.ErrTwice)
				}
			}
			if n == len(frames)-1 {
				done(t, "the last one", g, f, value)
			} else {
				comes(t, "not the last one", g, f)
			}
		}
	}
}

// TestDoneStaysDone: no part of it comes any more, until a greater version or Clear.
func TestDoneStaysDone(t *testing.T) {
	for size := 1; size <= 64; size++ {
		value := ramp(size, 3, 5)
		v := version(1, 2)
		g := fresh(t, size)
		finishes(t, "the first time", g, v, value)
		for range 3 {
			for _, f := range split(v, value) {
				refused(t, "the same", g, f, api.ErrTwice)
			}
			for _, f := range split(v, other(value)) {
				refused(t, "the same with other bytes", g, f, api.ErrTwice)
			}
			for _, f := range split(version(1, 1), value) {
				refused(t, "a lesser one", g, f, api.ErrArg)
			}
		}
		finishes(t, "a greater one", g, version(1, 3), other(value))
		g.Clear()
		finishes(t, "behind Clear", g, v, value)
	}
}

// TestClear clears new glues, such as are under way, and such as are done; then any version may come, the one that it was at and lesser ones too.
func TestClear(t *testing.T) {
	for _, size := range []int{1, 16, 17, 40, 64} {
		one, two := ramp(size, 0, 1), ramp(size, 128, 1)
		v := version(5, 5)
		for set := range places(t, v, one) {
			for _, w := range []api.Version{{}, version(0, 1), version(4, 9), version(5, 4), v, version(5, 6), version(65535, math.MaxUint32)} {
				g := places(t, v, one)[set]
				g.Clear()
				atNone(t, "behind Clear", g)
				g.Clear()
				atNone(t, "behind Clear twice", g)
				for n, f := range split(w, two) {
					if n == len(split(w, two))-1 {
						done(t, "behind Clear", g, f, two)
					} else {
						comes(t, "behind Clear", g, f)
					}
					at(t, "behind Clear", g, w, n+1)
				}
			}
		}
	}
}

// TestAt asks behind each act, and more than once.
func TestAt(t *testing.T) {
	value := ramp(50, 'a', 1)
	a, b := split(version(0, 0), value), split(version(0, 1), value)
	g := fresh(t, 50)
	atNone(t, "a new one", g)
	atNone(t, "a new one, asked again", g)
	refused(t, "refused", g, api.Frame{}, api.ErrKind)
	refused(t, "refused", g, api.Frame{Kind: api.Data, Version: version(9, 9)}, api.ErrForm)
	atNone(t, "nothing but refused ones", g)
	comes(t, "the zero version", g, a[3])
	at(t, "the zero version", g, version(0, 0), 1)
	at(t, "the zero version, asked again", g, version(0, 0), 1)
	comes(t, "the zero version", g, a[0])
	at(t, "the zero version", g, version(0, 0), 2)
	comes(t, "a greater one", g, b[2])
	at(t, "a greater one", g, version(0, 1), 1)
	comes(t, "a greater one", g, b[3])
	comes(t, "a greater one", g, b[0])
	at(t, "a greater one", g, version(0, 1), 3)
	done(t, "the last one", g, b[1], value)
	at(t, "done", g, version(0, 1), 4)
	g.Clear()
	atNone(t, "cleared", g)
}

// splitIs looks that Split answers f for each part, with what the chapter says changed.
func splitIs(t *testing.T, f api.Frame, value string) {
	t.Helper()
	want := []api.Frame{}
	all := plainParts(value)
	for part, bytes := range all {
		one := f
		one.Kind, one.Part, one.Parts, one.Bytes = api.Data, uint8(part), uint8(len(all)), bytes
		want = append(want, one)
	}
	if got := Split(f, value); !slices.Equal(got, want) {
		t.Errorf("Split(%+v, %q):\n got %+v\nwant %+v", f, value, got, want)
	}
}

func TestSplit(t *testing.T) {
	f := api.Frame{Kind: api.Leave, Src: 7, Block: 3, Version: version(1, 1), Wants: true, Part: 9, Parts: 9, Bytes: "old"}
	want := []api.Frame{
		{Kind: api.Data, Src: 7, Block: 3, Version: version(1, 1), Wants: true, Part: 0, Parts: 3, Bytes: "aaaaaaaaaaaaaaaa"},
		{Kind: api.Data, Src: 7, Block: 3, Version: version(1, 1), Wants: true, Part: 1, Parts: 3, Bytes: "aaaabbbbbbbbbbbb"},
		{Kind: api.Data, Src: 7, Block: 3, Version: version(1, 1), Wants: true, Part: 2, Parts: 3, Bytes: "bbbbbbbb"},
	}
	if got := Split(f, strings.Repeat("a", 20)+strings.Repeat("b", 20)); !slices.Equal(got, want) {
		t.Errorf("got %+v", got)
	}
	for _, value := range []string{"", strings.Repeat("x", 65), strings.Repeat("x", 100), strings.Repeat("x", 128), strings.Repeat("x", 256+16), strings.Repeat("x", 65536+16)} {
		if got := Split(f, value); len(got) != 0 {
			t.Errorf("a value of %d bytes: %+v", len(value), got)
		}
	}
	// Bytes are counted, not runes: one rune is cut in two.
	got := Split(api.Frame{}, strings.Repeat("\u20ac", 7))
	if len(got) != 2 || got[0].Bytes != strings.Repeat("\u20ac", 5)+"\xe2" || got[1].Bytes != "\x82\xac\u20ac" {
		t.Errorf("of runes: %+v", got)
	}
}

// setFields are frames with one field set alone, and with all set.
func setFields() []api.Frame {
	return []api.Frame{
		{}, full(),
		{Src: 255}, {Dst: 255}, {SrcInc: 65535}, {DstInc: 65535}, {Epoch: api.Epoch{Count: 65535}}, {Epoch: api.Epoch{Addr: 255}}, {Epoch: api.Epoch{Inc: 65535}}, {Hop: 65535},
		{High: api.Epoch{Count: 65535}}, {High: api.Epoch{Addr: 255}}, {High: api.Epoch{Inc: 65535}}, {Wants: true},
		{Block: 255}, {Version: version(65535, 0)}, {Version: version(0, math.MaxUint32)}, {Part: 255}, {Parts: 255}, {Bytes: "\xff\x00"}, {Bytes: strings.Repeat("x", 300)},
	}
}

// TestSplitOfEachLength has frames of each kind with each field set, and bytes of every value at every place.
func TestSplitOfEachLength(t *testing.T) {
	lengths := []int{100, 128, 256, 257, 272, 1000}
	for n := range 67 {
		lengths = append(lengths, n)
	}
	for _, n := range lengths {
		for _, f := range setFields() {
			for _, kind := range kinds() {
				f.Kind = kind
				splitIs(t, f, ramp(n, 77, 1))
			}
		}
		for first := range 256 {
			splitIs(t, full(), ramp(n, first, 1))
			splitIs(t, full(), ramp(n, first, 0))
		}
	}
}

// TestWhatIsSplitIsPutTogether has what Split answers in all orders, of each length.
func TestWhatIsSplitIsPutTogether(t *testing.T) {
	for size := 1; size <= 64; size++ {
		for i, order := range orders(len(Split(api.Frame{}, ramp(size, 0, 1)))) {
			f, value := full(), ramp(size, 31*i+size, 13)
			frames, g := Split(f, value), fresh(t, size)
			s, whole := "", false
			for n, part := range order {
				if whole {
					t.Errorf("%d bytes: whole by %d of %d parts", size, n, len(order))
				}
				s, whole, _ = g.Put(frames[part])
			}
			if s != value || !whole {
				t.Errorf("%d bytes, in order %v: %q, %v, want %q", size, order, s, whole, value)
			}
			at(t, "split", g, f.Version, len(order))
		}
	}
}

// offers are all sorts of frames: some that may come, with each field at its ends.
func offers() []api.Frame {
	list := setFields()
	for _, size := range []int{1, 16, 17, 40, 64} {
		for _, v := range []api.Version{{}, version(1, 1), version(65535, math.MaxUint32)} {
			list = append(list, split(v, ramp(size, 0, 1))...)
		}
	}
	for _, f := range setFields() {
		f.Kind = api.Data
		list = append(list, f)
	}
	for _, kind := range kinds() {
		for _, parts := range []uint8{0, 1, 3, 4, 5, 255} {
			for _, part := range []uint8{0, 3, 4, 8, 255} {
				list = append(list, api.Frame{Kind: kind, Parts: parts, Part: part}, api.Frame{Kind: kind, Parts: parts, Part: part, Bytes: ramp(16, 0, 1)})
			}
		}
	}
	return list
}

func TestNilGlue(t *testing.T) {
	var g *Glue
	for _, f := range offers() {
		put(t, "nil", g, f, "", false, api.ErrArg)
		atNone(t, "nil", g)
		g.Clear()
		atNone(t, "nil", g)
	}
}

// TestGlueThatNewDidNotMake has no size, so that nothing comes to it.
func TestGlueThatNewDidNotMake(t *testing.T) {
	one, two := Glue{}, new(Glue)
	for _, g := range []*Glue{&one, two} {
		for _, f := range offers() {
			want := api.ErrForm
			if f.Kind != api.Data {
				want = api.ErrKind
			}
			refused(t, "no size", g, f, want)
			atNone(t, "no size", g)
			g.Clear()
			atNone(t, "no size", g)
		}
	}
}

// TestAllShortRuns goes through all runs of up to five acts out of some, and holds them against the second way.
func TestAllShortRuns(t *testing.T) {
	one, two := ramp(20, 'a', 1), ramp(20, 'A', 1)
	a, b := split(version(1, 9), one), split(version(2, 0), two)
	strange := a[1]
	strange.Bytes = "?!?!"
	wrong := b[0]
	wrong.Parts = 1
	some := []api.Frame{a[0], a[1], b[0], b[1], strange, wrong, {Kind: api.Poll, Version: version(9, 9)}}
	runs := [][]int{{}}
	for i := 0; i < len(runs); i++ {
		run := runs[i]
		g, p := fresh(t, 20), newPlain(20)
		for _, act := range run {
			if act == len(some) {
				g.Clear()
				p.came = nil
			} else {
				same(t, g, p, some[act])
			}
		}
		for act := range len(some) + 1 {
			if len(run) < 5 {
				runs = append(runs, append(slices.Clone(run), act))
			}
		}
	}
}

// same puts a frame in both, and looks that they answer the same, and are at the same.
func same(t *testing.T, g *Glue, p *plainGlue, f api.Frame) api.Errno {
	t.Helper()
	s, whole, e := p.put(f)
	put(t, "as the second way", g, f, s, whole, e)
	v, n, ok := p.at()
	if w, m, is := g.At(); w != v || m != n || is != ok {
		t.Errorf("behind Put(%+v): At = %v, %d, %v, want %v, %d, %v", f, w, m, is, v, n, ok)
	}
	return e
}

// dice draws numbers, the same ones each time.
type dice uint32

func (d *dice) roll(below int) int {
	*d = *d*1664525 + 1013904223
	return int(*d>>8) % below
}

// version draws one out of a few, many of them near one another, some at the ends.
func (d *dice) version() api.Version {
	if d.roll(10) == 0 {
		return versions()[d.roll(len(versions()))]
	}
	return version(uint16(1+d.roll(2)), uint32(d.roll(3)))
}

// hurt changes a field of a frame, or leaves it as it is.
func (d *dice) hurt(f api.Frame) api.Frame {
	switch d.roll(24) {
	case 0:
		f.Kind = kinds()[d.roll(len(kinds()))]
	case 1:
		f.Parts = uint8(d.roll(6))
	case 2:
		f.Part = uint8(d.roll(6))
	case 3:
		f.Bytes = ramp(d.roll(20), d.roll(256), 1)
	case 4:
		f.Parts, f.Part = uint8(d.roll(256)), uint8(d.roll(256))
	case 5:
		f.Bytes = other(f.Bytes)
	}
	return f
}

// TestDrawnRuns holds many runs of acts against the second way, and looks that all sorts of answers came.
func TestDrawnRuns(t *testing.T) {
	d, seen, values := dice(17), map[api.Errno]int{}, 0
	for range 20000 {
		size := 1 + d.roll(64)
		g, p := fresh(t, size), newPlain(size)
		for range 5 + d.roll(40) {
			if d.roll(60) == 0 {
				g.Clear()
				p.came = nil
				atNone(t, "drawn", g)
				continue
			}
			frames := split(d.version(), ramp(size, d.roll(256), 1+d.roll(5)))
			e := same(t, g, p, d.hurt(frames[d.roll(len(frames))]))
			seen[e]++
			if e == api.OK && len(p.came) == len(frames) {
				values++
			}
		}
	}
	for _, e := range []api.Errno{api.OK, api.ErrKind, api.ErrForm, api.ErrArg, api.ErrTwice} {
		if seen[e] < 2000 {
			t.Errorf("%d came %d times only", e, seen[e])
		}
	}
	if values < 2000 {
		t.Errorf("%d values only", values)
	}
}

// drawn tells versions that were split, each with its value: rising, falling, or mixed, some of them alike.
func (d *dice) drawn(size int) ([]api.Version, map[api.Version]string) {
	list, values := []api.Version{}, map[api.Version]string{}
	for range 1 + d.roll(8) {
		v := d.version()
		list = append(list, v)
		values[v] = ramp(size, d.roll(256), 1+2*d.roll(20))
	}
	switch d.roll(3) {
	case 0:
		slices.SortFunc(list, plainCompare)
	case 1:
		slices.SortFunc(list, func(a, b api.Version) int { return plainCompare(b, a) })
	}
	return list, values
}

// parcel tells the frames of all these, some left out and some twice, in their order, or near it, or mixed.
func (d *dice) parcel(list []api.Version, values map[api.Version]string) []api.Frame {
	frames, lost, twice := []api.Frame{}, 2+d.roll(30), 2+d.roll(30)
	for _, v := range list {
		for _, f := range Split(api.Frame{Block: 3, Version: v}, values[v]) {
			if d.roll(lost) == 0 {
				continue
			}
			frames = append(frames, f)
			if d.roll(twice) == 0 {
				frames = append(frames, f)
			}
		}
	}
	far := []int{1, 3, 100}[d.roll(3)]
	for i := range frames {
		k := min(i+d.roll(far), len(frames)-1)
		frames[i], frames[k] = frames[k], frames[i]
	}
	return frames
}

// TestEachValueThatIsToldWasSplit holds P17.2 by itself, without the second way.
func TestEachValueThatIsToldWasSplit(t *testing.T) {
	d, told, unfinished := dice(172), 0, 0
	for range 20000 {
		size := 1 + d.roll(64)
		list, values := d.drawn(size)
		frames := d.parcel(list, values)
		g, tolds := fresh(t, size), []api.Version{}
		for i, f := range frames {
			s, whole, e := g.Put(f)
			if !whole {
				if s != "" {
					t.Errorf("not whole, and %q", s)
				}
				continue
			}
			v, n, ok := g.At()
			if e != api.OK || !ok || v != f.Version || n != int(f.Parts) || s != values[v] {
				t.Fatalf("%q as %v (%d parts), %d, behind %+v, want %q", s, v, n, e, frames[:i+1], values[v])
			}
			if len(tolds) > 0 && plainCompare(tolds[len(tolds)-1], v) >= 0 {
				t.Fatalf("%v is told behind %v", v, tolds)
			}
			tolds = append(tolds, v)
		}
		told += len(tolds)
		if _, n, ok := g.At(); ok && n < int(frames[0].Parts) {
			unfinished++
		}
	}
	if told < 10000 || unfinished < 1000 {
		t.Errorf("%d told, %d times one is unfinished at the end", told, unfinished)
	}
}

// TestWhatIsThereIsTold: where parts come in the order of their versions, each whole version is told, whatever is lost and doubled of it otherwise.
func TestWhatIsThereIsTold(t *testing.T) {
	d := dice(1717)
	for range 5000 {
		size, lost := 1+d.roll(64), 2+d.roll(10)
		g := fresh(t, size)
		for seq := range 6 {
			v, value := version(uint16(seq/3), uint32(seq%3)), ramp(size, d.roll(256), 1)
			frames := split(v, value)
			came, whole := make([]bool, len(frames)), 0
			for range 2 {
				for i := range frames {
					k := (5*i + seq) % len(frames)
					if d.roll(lost) == 0 {
						continue
					}
					came[k] = true
					s, ok, _ := g.Put(frames[k])
					if ok {
						whole++
						if s != value {
							t.Errorf("%q, want %q", s, value)
						}
					}
				}
			}
			want := 1
			if slices.Contains(came, false) {
				want = 0
			}
			if whole != want {
				t.Errorf("version %v of %d bytes: told %d times, want %d", v, size, whole, want)
			}
		}
	}
}

// TestTwoGluesPlayNoPartForOneAnother runs many at once, and holds each against the second way.
func TestTwoGluesPlayNoPartForOneAnother(t *testing.T) {
	d := dice(2)
	for range 500 {
		glues, plains := []*Glue{}, []*plainGlue{}
		size := 1 + d.roll(64)
		for i := range 6 {
			if i > 3 {
				size = 1 + d.roll(64)
			}
			glues, plains = append(glues, fresh(t, size)), append(plains, newPlain(size))
		}
		for range 100 {
			i := d.roll(len(glues))
			if d.roll(30) == 0 {
				glues[i].Clear()
				plains[i].came = nil
			}
			frames := split(d.version(), ramp(len(plains[i].some), d.roll(256), 1))
			same(t, glues[i], plains[i], d.hurt(frames[d.roll(len(frames))]))
			for k, g := range glues {
				v, n, ok := plains[k].at()
				if w, m, is := g.At(); w != v || m != n || is != ok {
					t.Fatalf("glue %d: At = %v, %d, %v, want %v, %d, %v", k, w, m, is, v, n, ok)
				}
			}
		}
	}
}

// TestEveryCallEnds holds P0 and R7: each call answers at all arguments, and the same once more.
func TestEveryCallEnds(t *testing.T) {
	for _, size := range edgeSizes() {
		one, two := New(size), New(size)
		if (one == nil) != (two == nil) {
			t.Errorf("New(%d): two answers", size)
		}
		for _, f := range offers() {
			s, whole, e := one.Put(f)
			put(t, "the same once more", two, f, s, whole, e)
			v, n, ok := one.At()
			if w, m, is := two.At(); w != v || m != n || is != ok {
				t.Errorf("At: two answers, %v, %d, %v and %v, %d, %v", v, n, ok, w, m, is)
			}
		}
		one.Clear()
		two.Clear()
	}
	for _, value := range []string{"", "\xff\xfe", "\x00", strings.Repeat("\x00", 64), strings.Repeat("\xff", 64), strings.Repeat("\xed\xa0\x80", 21), strings.Repeat("x", 1<<16), ramp(1<<16+20, 0, 1)} {
		for _, f := range offers() {
			if !slices.Equal(Split(f, value), Split(f, value)) {
				t.Errorf("Split(%+v, %q): two answers", f, value)
			}
			splitIs(t, f, value)
		}
	}
	for _, a := range versions() {
		if Compare(a, a) != 0 {
			t.Errorf("Compare(%v, %v) = %d", a, a, Compare(a, a))
		}
	}
}

// TestWhatIsGivenStaysAsItIs holds R4: a list of frames is as it was, whatever was put of it and done with what was answered.
func TestWhatIsGivenStaysAsItIs(t *testing.T) {
	f, value := full(), ramp(40, 'a', 1)
	frames := Split(f, value)
	kept := slices.Clone(frames)
	g := fresh(t, 40)
	for i := range frames {
		g.Put(frames[i])
		more := Split(frames[i], value)
		for k := range more {
			more[k] = api.Frame{}
		}
	}
	g.Clear()
	if !slices.Equal(frames, kept) || f != full() || value != ramp(40, 'a', 1) {
		t.Errorf("%+v\nwas %+v", frames, kept)
	}
}

// TestWhatIsPutIsNotKept changes a frame behind Put: what came is as it was then.
func TestWhatIsPutIsNotKept(t *testing.T) {
	value := ramp(40, 'a', 1)
	frames, g := split(version(1, 1), value), fresh(t, 40)
	f := &frames[0]
	comes(t, "as it was", g, *f)
	f.Version, f.Bytes, f.Part, f.Parts, f.Kind = version(9, 9), other(f.Bytes), 1, 1, api.Token
	at(t, "behind the change", g, version(1, 1), 1)
	bytes := []byte(frames[1].Bytes)
	next := frames[1]
	next.Bytes = string(bytes)
	comes(t, "of bytes", g, next)
	clear(bytes)
	done(t, "the last one", g, frames[2], value)
}

// TestWhatWasAnsweredStays holds P0: no later call, and nothing done with a list or with another answer, changes it.
func TestWhatWasAnsweredStays(t *testing.T) {
	f := full()
	answers, want := [][]api.Frame{}, [][]api.Frame{}
	told, wantTold := []string{}, []string{}
	g := fresh(t, 50)
	for i := range 6 {
		f.Version = version(7, uint32(i))
		value := ramp(50, 40*i, 1)
		for range 2 {
			answers, want = append(answers, Split(f, value)), append(want, split(f.Version, value))
		}
		for _, part := range answers[len(answers)-1] {
			if s, whole, _ := g.Put(part); whole {
				told, wantTold = append(told, s), append(wantTold, value)
			}
		}
	}
	g.Put(split(version(8, 8), ramp(50, 9, 9))[2])
	g.Clear()
	if len(told) != 6 || !slices.Equal(told, wantTold) {
		t.Errorf("told %q, want %q", told, wantTold)
	}
	for i, l := range answers {
		if !slices.Equal(l, want[i]) {
			t.Errorf("answer %d: %+v, want %+v", i, l, want[i])
		}
		for k := range l {
			l[k] = api.Frame{Kind: 1000 + i}
		}
		answers[i] = append(l, api.Frame{Kind: 2000 + i})
	}
	for i, l := range answers {
		n := len(l) - 1
		if n != len(want[i]) || l[n].Kind != 2000+i || slices.ContainsFunc(l[:n], func(f api.Frame) bool { return f.Kind != 1000+i }) {
			t.Errorf("answer %d shares what it has with another: %+v", i, l)
		}
	}
}
