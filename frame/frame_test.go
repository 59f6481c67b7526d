package frame

import (
	"math"
	"slices"
	"strconv"
	"strings"
	"testing"

	"fugleman/api"
	"fugleman/crc"
)

func kinds() []int {
	return []int{api.Token, api.Poll, api.Status, api.Data, api.Leave}
}

// noKinds are numbers that name no kind, some of them with a kind in their lowest byte.
func noKinds() []int {
	return []int{
		0, -1, -2, -250, -251, -252, -253, -254, -255, -256, 6, 7, 127, 128, 255, 256, 257, 258, 259, 260, 261, 262,
		65537, 1<<31 + 4, 1<<32 + 1, 1<<32 + 3, 1<<32 + 4, math.MinInt, math.MinInt + 1, math.MinInt + 4, math.MaxInt - 1, math.MaxInt,
	}
}

// base is a frame of that kind, with other bytes everywhere.
func base(kind int) api.Frame {
	f := api.Frame{Kind: kind, Src: 1, SrcInc: 0x0203, Epoch: api.Epoch{Count: 0x1112, Addr: 0x13, Inc: 0x1415}, Hop: 0x1617}
	if kind != api.Data {
		f.Dst, f.DstInc = 4, 0x0506
	}
	switch kind {
	case api.Status:
		f.High, f.Wants = api.Epoch{Count: 0x2122, Addr: 0x1E, Inc: 0x2425}, true
	case api.Data:
		f.Block, f.Version, f.Part, f.Parts, f.Bytes = 7, api.Version{Inc: 0x3132, Seq: 0x33343536}, 2, 4, "0123456789abcdef"
	}
	return f
}

// change turns a frame into another one, which of some kinds may be.
type change struct {
	name string
	may  []int
	do   func(f *api.Frame)
}

// changesOfAll are changes of what all kinds have.
func changesOfAll() []change {
	return []change{
		{"nothing", kinds(), func(f *api.Frame) {}},
		{"Src 0", kinds(), func(f *api.Frame) { f.Src = 0 }},
		{"Src 31", kinds(), func(f *api.Frame) { f.Src = 31 }},
		{"Src 32", nil, func(f *api.Frame) { f.Src = 32 }},
		{"Src 33", nil, func(f *api.Frame) { f.Src = 33 }},
		{"Src 255", nil, func(f *api.Frame) { f.Src = 255 }},
		{"SrcInc 0", kinds(), func(f *api.Frame) { f.SrcInc = 0 }},
		{"SrcInc 65535", kinds(), func(f *api.Frame) { f.SrcInc = 65535 }},
		{"Count 0", kinds(), func(f *api.Frame) { f.Epoch.Count = 0 }},
		{"Count 65535", kinds(), func(f *api.Frame) { f.Epoch.Count = 65535 }},
		{"Addr 0", kinds(), func(f *api.Frame) { f.Epoch.Addr = 0 }},
		{"Addr 31", kinds(), func(f *api.Frame) { f.Epoch.Addr = 31 }},
		{"Addr 32", nil, func(f *api.Frame) { f.Epoch.Addr = 32 }},
		{"Addr 33", nil, func(f *api.Frame) { f.Epoch.Addr = 33 }},
		{"Addr 255", nil, func(f *api.Frame) { f.Epoch.Addr = 255 }},
		{"Inc 0", kinds(), func(f *api.Frame) { f.Epoch.Inc = 0 }},
		{"Inc 65535", kinds(), func(f *api.Frame) { f.Epoch.Inc = 65535 }},
		{"Hop 0", kinds(), func(f *api.Frame) { f.Hop = 0 }},
		{"Hop 65535", kinds(), func(f *api.Frame) { f.Hop = 65535 }},
	}
}

// changesOfSome are changes of what Token, Poll, Status and Leave have, and of what a Status alone has.
func changesOfSome() []change {
	named := []int{api.Token, api.Poll, api.Status, api.Leave}
	status := []int{api.Status}
	return []change{
		{"Dst 0", kinds(), func(f *api.Frame) { f.Dst = 0 }},
		{"Dst 1", named, func(f *api.Frame) { f.Dst = 1 }},
		{"Dst 31", named, func(f *api.Frame) { f.Dst = 31 }},
		{"Dst 32", nil, func(f *api.Frame) { f.Dst = 32 }},
		{"Dst 255", nil, func(f *api.Frame) { f.Dst = 255 }},
		{"Dst as Src", named, func(f *api.Frame) { f.Dst = f.Src }},
		{"DstInc 0", kinds(), func(f *api.Frame) { f.DstInc = 0 }},
		{"DstInc 1", named, func(f *api.Frame) { f.DstInc = 1 }},
		{"DstInc 65535", named, func(f *api.Frame) { f.DstInc = 65535 }},
		{"no High", kinds(), func(f *api.Frame) { f.High = api.Epoch{} }},
		{"High's Count 1", status, func(f *api.Frame) { f.High.Count = 1 }},
		{"High's Count 65535", status, func(f *api.Frame) { f.High.Count = 65535 }},
		{"High's Addr 1", status, func(f *api.Frame) { f.High.Addr = 1 }},
		{"High's Addr 31", status, func(f *api.Frame) { f.High.Addr = 31 }},
		{"High's Addr 32", nil, func(f *api.Frame) { f.High.Addr = 32 }},
		{"High's Addr 255", nil, func(f *api.Frame) { f.High.Addr = 255 }},
		{"High's Inc 1", status, func(f *api.Frame) { f.High.Inc = 1 }},
		{"High's Inc 65535", status, func(f *api.Frame) { f.High.Inc = 65535 }},
		{"doesn't want", kinds(), func(f *api.Frame) { f.Wants = false }},
		{"wants", status, func(f *api.Frame) { f.Wants = true }},
	}
}

// changesOfData are changes of what Data alone has.
func changesOfData() []change {
	data := []int{api.Data}
	others := []int{api.Token, api.Poll, api.Status, api.Leave}
	return []change{
		{"Block 0", kinds(), func(f *api.Frame) { f.Block = 0 }},
		{"Block 1", data, func(f *api.Frame) { f.Block = 1 }},
		{"Block 15", data, func(f *api.Frame) { f.Block = 15 }},
		{"Block 16", nil, func(f *api.Frame) { f.Block = 16 }},
		{"Block 255", nil, func(f *api.Frame) { f.Block = 255 }},
		{"no Version", kinds(), func(f *api.Frame) { f.Version = api.Version{} }},
		{"Version's Inc 1", data, func(f *api.Frame) { f.Version.Inc = 1 }},
		{"Version's Inc 65535", data, func(f *api.Frame) { f.Version.Inc = 65535 }},
		{"Version's Seq 1", data, func(f *api.Frame) { f.Version.Seq = 1 }},
		{"Version's greatest Seq", data, func(f *api.Frame) { f.Version.Seq = math.MaxUint32 }},
		{"part 0 of 0", others, func(f *api.Frame) { f.Part, f.Parts = 0, 0 }},
		{"part 0 of 1", data, func(f *api.Frame) { f.Part, f.Parts = 0, 1 }},
		{"part 0 of 4", data, func(f *api.Frame) { f.Part, f.Parts = 0, 4 }},
		{"part 0 of 5", nil, func(f *api.Frame) { f.Part, f.Parts = 0, 5 }},
		{"part 0 of 255", nil, func(f *api.Frame) { f.Part, f.Parts = 0, 255 }},
		{"part 1 of 0", nil, func(f *api.Frame) { f.Part, f.Parts = 1, 0 }},
		{"part 1 of 1", nil, func(f *api.Frame) { f.Part, f.Parts = 1, 1 }},
		{"part 1 of 2", data, func(f *api.Frame) { f.Part, f.Parts = 1, 2 }},
		{"part 3 of 4", data, func(f *api.Frame) { f.Part, f.Parts = 3, 4 }},
		{"part 4 of 4", nil, func(f *api.Frame) { f.Part, f.Parts = 4, 4 }},
		{"part 5 of 4", nil, func(f *api.Frame) { f.Part, f.Parts = 5, 4 }},
		{"part 4 of 5", nil, func(f *api.Frame) { f.Part, f.Parts = 4, 5 }},
		{"part -1 of 4", nil, func(f *api.Frame) { f.Part, f.Parts = 0, 4; f.Part-- }},
		{"part -1 of 0", nil, func(f *api.Frame) { f.Part, f.Parts = 0, 0; f.Part-- }},
		{"Bytes of 0", others, func(f *api.Frame) { f.Bytes = "" }},
		{"Bytes of 1", data, func(f *api.Frame) { f.Bytes = "x" }},
		{"Bytes of one 0", data, func(f *api.Frame) { f.Bytes = "\x00" }},
		{"Bytes of 15", data, func(f *api.Frame) { f.Bytes = strings.Repeat("\xff", 15) }},
		{"Bytes of 16", data, func(f *api.Frame) { f.Bytes = strings.Repeat("\x00", 16) }},
		{"Bytes of 17", nil, func(f *api.Frame) { f.Bytes = strings.Repeat("y", 17) }},
		{"Bytes of 257", nil, func(f *api.Frame) { f.Bytes = strings.Repeat("y", 257) }},
		{"Bytes of very many", nil, func(f *api.Frame) { f.Bytes = strings.Repeat("y", 1<<16+1) }},
	}
}

func changes() []change {
	return slices.Concat(changesOfAll(), changesOfSome(), changesOfData())
}

// ends are the frames of that kind with the least, and with the greatest, of each of their parts.
func ends(kind int) []api.Frame {
	low := api.Frame{Kind: kind}
	top := api.Epoch{Count: 65535, Addr: 31, Inc: 65535}
	high := api.Frame{Kind: kind, Src: 31, SrcInc: 65535, Epoch: top, Hop: 65535}
	if kind != api.Data {
		high.Dst, high.DstInc = 31, 65535
	}
	switch kind {
	case api.Status:
		high.High, high.Wants = top, true
	case api.Data:
		low.Parts, low.Bytes = 1, "\x00"
		high.Block, high.Version, high.Part, high.Parts = 15, api.Version{Inc: 65535, Seq: math.MaxUint32}, 3, 4
		high.Bytes = strings.Repeat("\xff", 16)
	}
	return []api.Frame{low, high}
}

// rightFrames are frames of each kind that may be.
func rightFrames() []api.Frame {
	all := []api.Frame{}
	for _, kind := range kinds() {
		all = append(all, ends(kind)...)
		for _, c := range changes() {
			f := base(kind)
			c.do(&f)
			if slices.Contains(c.may, kind) && !slices.Contains(all, f) {
				all = append(all, f)
			}
		}
	}
	for n := range 16 {
		f := base(api.Data)
		f.Block, f.Part, f.Parts, f.Bytes = uint8(15-n), uint8(n%4), 4, f.Bytes[:n+1]
		all = append(all, f)
	}
	return all
}

// fewFrames are one or two of each kind, and of each size.
func fewFrames() []api.Frame {
	all := []api.Frame{}
	for _, kind := range kinds() {
		all = append(all, base(kind), ends(kind)[0], ends(kind)[1])
	}
	nine := base(api.Data)
	nine.Bytes = nine.Bytes[:9]
	return append(all, nine)
}

// plainBytes are the bytes of f, laid one by one.
func plainBytes(f api.Frame) string {
	b := []byte{
		byte(f.Kind), 0, f.Src, byte(f.SrcInc >> 8), byte(f.SrcInc), f.Dst, byte(f.DstInc >> 8), byte(f.DstInc),
		byte(f.Epoch.Count >> 8), byte(f.Epoch.Count), f.Epoch.Addr, byte(f.Epoch.Inc >> 8), byte(f.Epoch.Inc),
		byte(f.Hop >> 8), byte(f.Hop),
	}
	switch f.Kind {
	case api.Status:
		b = append(b, byte(f.High.Count>>8), byte(f.High.Count), f.High.Addr, byte(f.High.Inc>>8), byte(f.High.Inc), 0)
		if f.Wants {
			b[len(b)-1] = 1
		}
	case api.Data:
		seq := f.Version.Seq
		b = append(b, f.Block, byte(f.Version.Inc>>8), byte(f.Version.Inc), byte(seq>>24), byte(seq>>16), byte(seq>>8), byte(seq), f.Part, f.Parts)
		b = append(b, f.Bytes...)
	}
	return madeRight(string(b))
}

// madeRight is s with how many bytes it has, and its sum behind it, made right.
func madeRight(s string) string {
	b := []byte(s)
	if len(b) > 1 {
		b[1] = byte(len(b) + 2)
	}
	return crc.Sealed(string(b))
}

// plainDecode reads by places, and holds nothing against Encode.
func plainDecode(s string) (api.Frame, api.Errno) {
	if len(s) < 17 || int(s[1]) != len(s) {
		return api.Frame{}, api.ErrLen
	}
	if n := len(s); crc.Sum(s[:n-2]) != two(s, n-2) {
		return api.Frame{}, api.ErrCrc
	}
	least := map[int]int{api.Token: 17, api.Poll: 17, api.Status: 23, api.Data: 27, api.Leave: 17}
	most := map[int]int{api.Token: 17, api.Poll: 17, api.Status: 23, api.Data: 42, api.Leave: 17}
	kind := int(s[0])
	if least[kind] == 0 {
		return api.Frame{}, api.ErrKind
	}
	if len(s) < least[kind] || len(s) > most[kind] {
		return api.Frame{}, api.ErrLen
	}
	f := api.Frame{Kind: kind, Src: s[2], SrcInc: two(s, 3), Dst: s[5], DstInc: two(s, 6), Epoch: epochAt(s, 8), Hop: two(s, 13)}
	may := f.Src < 32 && f.Dst < 32 && f.Epoch.Addr < 32
	switch kind {
	case api.Status:
		f.High, f.Wants = epochAt(s, 15), s[20] == 1
		may = may && f.High.Addr < 32 && s[20] < 2
	case api.Data:
		f.Block, f.Version, f.Part, f.Parts = s[15], api.Version{Inc: two(s, 16), Seq: uint32(two(s, 18))<<16 | uint32(two(s, 20))}, s[22], s[23]
		f.Bytes = s[24 : len(s)-2]
		may = may && f.Dst == 0 && f.DstInc == 0 && f.Block < 16 && f.Parts >= 1 && f.Parts <= 4 && f.Part < f.Parts
	}
	if !may {
		return api.Frame{}, api.ErrForm
	}
	return f, api.OK
}

func two(s string, at int) uint16 {
	return uint16(s[at])<<8 | uint16(s[at+1])
}

func epochAt(s string, at int) api.Epoch {
	return api.Epoch{Count: two(s, at), Addr: s[at+2], Inc: two(s, at+3)}
}

// checkRight holds that f may be: that its bytes are those of the chapter, and are decoded as it.
func checkRight(t *testing.T, name string, f api.Frame) {
	t.Helper()
	want := plainBytes(f)
	if !Right(f) || Size(f) != len(want) {
		t.Errorf("%s: Right(%v) = %v, Size %d, want %d", name, f, Right(f), Size(f), len(want))
	}
	if got, e := Encode(f); got != want || e != api.OK {
		t.Errorf("%s: Encode(%v) = % x, %d, want % x", name, f, got, e, want)
	}
	if got, e := Decode(want); got != f || e != api.OK {
		t.Errorf("%s: Decode(% x) = %v, %d, want %v", name, want, got, e, f)
	}
}

// checkWrong holds that f may not be.
func checkWrong(t *testing.T, name string, f api.Frame) {
	t.Helper()
	if Right(f) || Size(f) != 0 {
		t.Errorf("%s: Right(%v) = %v, Size %d", name, f, Right(f), Size(f))
	}
	if got, e := Encode(f); got != "" || e != api.ErrForm {
		t.Errorf("%s: Encode(%v) = % x, %d", name, f, got, e)
	}
}

func check(t *testing.T, name string, f api.Frame, may bool) {
	t.Helper()
	if may {
		checkRight(t, name, f)
	} else {
		checkWrong(t, name, f)
	}
}

// checkDecode holds what s is decoded as, and that what is decoded has these bytes.
func checkDecode(t *testing.T, name, s string) {
	t.Helper()
	want, wantErr := plainDecode(s)
	got, e := Decode(s)
	if got != want || e != wantErr {
		t.Fatalf("%s: Decode(% x) = %v, %d, want %v, %d", name, s, got, e, want, wantErr)
	}
	if e != api.OK {
		return
	}
	if bytes, e := Encode(got); bytes != s || e != api.OK {
		t.Fatalf("%s: Decode(% x) = %v, whose bytes are % x, %d", name, s, got, bytes, e)
	}
}

// TestBytesOfKnownFrames holds each byte, and the sum, against bytes that were reckoned elsewhere.
func TestBytesOfKnownFrames(t *testing.T) {
	out, one := base(api.Status), base(api.Data)
	out.Wants = false
	one.Bytes = "x"
	for want, f := range map[string]api.Frame{
		"\x01\x11\x01\x02\x03\x04\x05\x06\x11\x12\x13\x14\x15\x16\x17\x7a\x78":                                              base(api.Token),
		"\x02\x11\x01\x02\x03\x04\x05\x06\x11\x12\x13\x14\x15\x16\x17\x99\x5d":                                              base(api.Poll),
		"\x03\x17\x01\x02\x03\x04\x05\x06\x11\x12\x13\x14\x15\x16\x17\x21\x22\x1e\x24\x25\x01\xec\x04":                      base(api.Status),
		"\x03\x17\x01\x02\x03\x04\x05\x06\x11\x12\x13\x14\x15\x16\x17\x21\x22\x1e\x24\x25\x00\xfc\x25":                      out,
		"\x04\x1b\x01\x02\x03\x00\x00\x00\x11\x12\x13\x14\x15\x16\x17\x07\x31\x32\x33\x34\x35\x36\x02\x04x\x17\x47":         one,
		"\x04\x2a\x01\x02\x03\x00\x00\x00\x11\x12\x13\x14\x15\x16\x17\x07123456\x02\x040123456789abcdef\x84\x3e":            base(api.Data),
		"\x05\x11\x01\x02\x03\x04\x05\x06\x11\x12\x13\x14\x15\x16\x17\xe1\xca":                                              base(api.Leave),
		"\x01\x11\x00\x00\x00\x00\x00\x00\x00\x00\x00\x00\x00\x00\x00\x5d\xa9":                                              ends(api.Token)[0],
		"\x01\x11\x1f\xff\xff\x1f\xff\xff\xff\xff\x1f\xff\xff\xff\xff\xdd\x41":                                              ends(api.Token)[1],
		"\x03\x17\x1f\xff\xff\x1f\xff\xff\xff\xff\x1f\xff\xff\xff\xff\xff\xff\x1f\xff\xff\x01\x4a\x4d":                      ends(api.Status)[1],
		"\x04\x2a\x1f\xff\xff\x00\x00\x00\xff\xff\x1f\xff\xff\xff\xff\x0f\xff\xff\xff\xff\xff\xff\x03\x04" + ff16 + "\xa1~": ends(api.Data)[1],
	} {
		if got, e := Encode(f); got != want || e != api.OK {
			t.Errorf("Encode(%v) = % x, %d, want % x", f, got, e, want)
		}
		if got, e := Decode(want); got != f || e != api.OK {
			t.Errorf("Decode(% x) = %v, %d, want %v", want, got, e, f)
		}
		if Size(f) != len(want) || int(want[1]) != len(want) {
			t.Errorf("Size(%v) = %d, want %d", f, Size(f), len(want))
		}
	}
}

const ff16 = "\xff\xff\xff\xff\xff\xff\xff\xff\xff\xff\xff\xff\xff\xff\xff\xff"

func TestFramesOfEachKind(t *testing.T) {
	for _, kind := range kinds() {
		for i, f := range ends(kind) {
			checkRight(t, "kind "+strconv.Itoa(kind)+", end "+strconv.Itoa(i), f)
		}
		for _, c := range changes() {
			f := base(kind)
			c.do(&f)
			check(t, "kind "+strconv.Itoa(kind)+", "+c.name, f, slices.Contains(c.may, kind))
		}
	}
}

// TestFramesOfNoKind takes as such frames those that would be right of a kind, with the kind's number alone another.
func TestFramesOfNoKind(t *testing.T) {
	for _, kind := range noKinds() {
		checkWrong(t, "nothing else", api.Frame{Kind: kind})
		for _, f := range rightFrames() {
			f.Kind = kind
			checkWrong(t, "no kind", f)
		}
	}
	checkWrong(t, "nothing", api.Frame{})
}

// TestFramesOfAnotherKind holds that what one kind may be another one may not, where it has something that this one hasn't.
func TestFramesOfAnotherKind(t *testing.T) {
	for _, kind := range kinds() {
		for _, other := range kinds() {
			f := base(kind)
			f.Kind = other
			plain := kind != api.Status && kind != api.Data
			check(t, "another kind", f, kind == other || plain && other != api.Data)
		}
	}
}

func TestEveryNumberOfOneByte(t *testing.T) {
	for n := range 256 {
		b := uint8(n)
		for _, kind := range kinds() {
			named, status, data := kind != api.Data, kind == api.Status, kind == api.Data
			f := base(kind)
			f.Src = b
			check(t, "Src", f, n < 32)
			f = base(kind)
			f.Epoch.Addr = b
			check(t, "Epoch's Addr", f, n < 32)
			f = base(kind)
			f.Dst = b
			check(t, "Dst", f, n == 0 || named && n < 32)
			f = base(kind)
			f.High.Addr = b
			check(t, "High's Addr", f, n == 0 || status && n < 32)
			f = base(kind)
			f.Block = b
			check(t, "Block", f, n == 0 || data && n < 16)
		}
	}
}

func TestEveryPartOfParts(t *testing.T) {
	for part := range 256 {
		for parts := range 256 {
			f := base(api.Data)
			f.Part, f.Parts = uint8(part), uint8(parts)
			check(t, "Data", f, parts >= 1 && parts <= 4 && part < parts)
		}
	}
}

func TestBytesOfEveryLength(t *testing.T) {
	for n := range 600 {
		f := base(api.Data)
		f.Bytes = strings.Repeat("\xa5", n)
		check(t, "Data", f, n >= 1 && n <= 16)
		if n >= 1 && n <= 16 && Size(f) != 26+n {
			t.Errorf("Size with %d Bytes: %d", n, Size(f))
		}
	}
}

// TestEveryBitOfGreaterNumbers sets each bit of the numbers of more than one byte, of each kind: each has its own place.
func TestEveryBitOfGreaterNumbers(t *testing.T) {
	for _, kind := range kinds() {
		for bit := range 32 {
			n := uint32(1) << bit
			f := base(kind)
			f.SrcInc = uint16(n)
			checkRight(t, "SrcInc", f)
			f = base(kind)
			f.Epoch.Count = uint16(n)
			checkRight(t, "Count", f)
			f = base(kind)
			f.Epoch.Inc = uint16(n)
			checkRight(t, "Inc", f)
			f = base(kind)
			f.Hop = uint16(n)
			checkRight(t, "Hop", f)
			f = base(kind)
			f.DstInc = uint16(n)
			check(t, "DstInc", f, uint16(n) == 0 || kind != api.Data)
			f = base(kind)
			f.High.Count = uint16(n)
			check(t, "High's Count", f, uint16(n) == 0 || kind == api.Status)
			f = base(kind)
			f.High.Inc = uint16(n)
			check(t, "High's Inc", f, uint16(n) == 0 || kind == api.Status)
			f = base(kind)
			f.Version.Inc = uint16(n)
			check(t, "Version's Inc", f, uint16(n) == 0 || kind == api.Data)
			f = base(kind)
			f.Version.Seq = n
			check(t, "Version's Seq", f, kind == api.Data)
		}
	}
}

// TestDecodeOfEveryFrame holds one half of P4.2: a frame is decoded of its bytes.
func TestDecodeOfEveryFrame(t *testing.T) {
	for _, f := range rightFrames() {
		s, e := Encode(f)
		if e != api.OK {
			t.Fatalf("Encode(%v): %d", f, e)
		}
		if got, e := Decode(s); got != f || e != api.OK {
			t.Errorf("Decode(% x) = %v, %d, want %v", s, got, e, f)
		}
		checkDecode(t, "its bytes", s)
	}
}

// fault is a text that is no frame's, and why.
type fault struct {
	name string
	s    string
	want api.Errno
}

// put is s with other bytes from a place on.
func put(s string, at int, bytes string) string {
	return s[:at] + bytes + s[at+len(bytes):]
}

// faults are texts with one fault, or several: the first one of the chapter is told.
func faults() []fault {
	token, status, data := plainBytes(base(api.Token)), plainBytes(base(api.Status)), plainBytes(base(api.Data))
	head := token[:15]
	hurt := put(token, 16, string([]byte{token[16] ^ 1}))
	return []fault{
		{"none", "", api.ErrLen},
		{"of 16 bytes, right else", madeRight(head[:14]), api.ErrLen},
		{"of 16 bytes, without a kind, hurt", "\x00\x10" + head[:14], api.ErrLen},
		{"a byte less", token[:16], api.ErrLen},
		{"a byte more", token + "\x00", api.ErrLen},
		{"a byte more of a Status", status + "\x00", api.ErrLen},
		{"twice", token + token, api.ErrLen},
		{"another number of bytes", crc.Sealed(put(head, 1, "\x12")), api.ErrLen},
		{"no number of bytes", crc.Sealed(put(head, 1, "\x00")), api.ErrLen},
		{"another number of bytes, a wrong sum", put(token, 1, "\x10"), api.ErrLen},
		{"another number of bytes, no kind", crc.Sealed(put(head, 0, "\x09\x12")), api.ErrLen},
		{"257 bytes, told as 1", crc.Sealed("\x01\x01" + strings.Repeat("\x00", 253)), api.ErrLen},
		{"273 bytes, told as 17", crc.Sealed("\x01\x11" + strings.Repeat("\x00", 269)), api.ErrLen},
		{"a wrong sum", hurt, api.ErrCrc},
		{"a wrong sum's higher byte", put(token, 15, string([]byte{token[15] ^ 0x80})), api.ErrCrc},
		{"a sum with its bytes turned round", head + string([]byte{token[16], token[15]}), api.ErrCrc},
		{"a wrong sum, no kind", put(token, 0, "\x00"), api.ErrCrc},
		{"a wrong sum, a length of another kind", put(token, 0, "\x03"), api.ErrCrc},
		{"a wrong sum, no address", put(token, 2, "\x20"), api.ErrCrc},
		{"kind 0", madeRight(put(head, 0, "\x00")), api.ErrKind},
		{"kind 6", madeRight(put(head, 0, "\x06")), api.ErrKind},
		{"kind 255", madeRight(put(head, 0, "\xff")), api.ErrKind},
		{"no kind, a length of none", madeRight(put(head, 0, "\x06") + "\x00"), api.ErrKind},
		{"no kind, no address", madeRight(put(head, 0, "\x00\x00\x20")), api.ErrKind},
		{"a Token of 18", madeRight(head + "\x00"), api.ErrLen},
		{"a Token as long as a Status, no address", madeRight(put(head, 2, "\x20") + "abcdef"), api.ErrLen},
		{"a Status as short as a Token", madeRight(put(head, 0, "\x03")), api.ErrLen},
		{"Data without Bytes", madeRight(data[:24]), api.ErrLen},
		{"Data without Bytes, Block 16", madeRight(put(data[:24], 15, "\x10")), api.ErrLen},
		{"Data of 17 Bytes", madeRight(data[:40] + "x"), api.ErrLen},
		{"a byte for Wants of 2", madeRight(put(status[:21], 20, "\x02")), api.ErrForm},
		{"a byte for Wants of 3", madeRight(put(status[:21], 20, "\x03")), api.ErrForm},
		{"a byte for Wants of 255", madeRight(put(status[:21], 20, "\xff")), api.ErrForm},
		{"Src 32", madeRight(put(head, 2, "\x20")), api.ErrForm},
		{"Dst 32", madeRight(put(head, 5, "\x20")), api.ErrForm},
		{"Epoch's Addr 32", madeRight(put(head, 10, "\x20")), api.ErrForm},
		{"High's Addr 32", madeRight(put(status[:21], 17, "\x20")), api.ErrForm},
		{"Data with a Dst", madeRight(put(data[:40], 5, "\x01")), api.ErrForm},
		{"Data with a DstInc", madeRight(put(data[:40], 7, "\x01")), api.ErrForm},
		{"Data with a DstInc, its higher byte", madeRight(put(data[:40], 6, "\x01")), api.ErrForm},
		{"Block 16", madeRight(put(data[:40], 15, "\x10")), api.ErrForm},
		{"part 0 of 0", madeRight(put(data[:40], 22, "\x00\x00")), api.ErrForm},
		{"part 0 of 5", madeRight(put(data[:40], 22, "\x00\x05")), api.ErrForm},
		{"part 4 of 4", madeRight(put(data[:40], 22, "\x04\x04")), api.ErrForm},
		{"part 255 of 4", madeRight(put(data[:40], 22, "\xff\x04")), api.ErrForm},
	}
}

func TestDecodeOfFaults(t *testing.T) {
	for _, c := range faults() {
		if got, e := Decode(c.s); got != (api.Frame{}) || e != c.want {
			t.Errorf("%s: Decode(% x) = %v, %d, want %d", c.name, c.s, got, e, c.want)
		}
		checkDecode(t, c.name, c.s)
	}
}

// TestDecodeOfEveryLength takes all kinds at all lengths, whatever their sum and what they tell of their length.
func TestDecodeOfEveryLength(t *testing.T) {
	for _, fill := range []string{"\x00", "\x01", "\x1f", "\xff"} {
		for length := range 300 {
			s := strings.Repeat(fill, length)
			checkDecode(t, "as it is", s)
			for kind := range 256 {
				if kind > 8 && kind < 250 && length != 15 {
					continue
				}
				if length > 0 {
					s = put(s, 0, string([]byte{byte(kind)}))
				}
				checkDecode(t, "made right", madeRight(s))
				checkDecode(t, "sealed", crc.Sealed(s))
			}
		}
	}
}

// TestDecodeOfEveryByteAtEveryPlace takes bytes that are a frame's but for one, with a sum made right, and one that isn't.
func TestDecodeOfEveryByteAtEveryPlace(t *testing.T) {
	for _, f := range fewFrames() {
		s := plainBytes(f)
		for at := range s {
			for b := range 256 {
				other := put(s, at, string([]byte{byte(b)}))
				checkDecode(t, "hurt", other)
				checkDecode(t, "sealed anew", crc.Sealed(other[:len(s)-2]))
			}
		}
	}
}

// TestDecodeOfTwoBytes takes bytes that are a frame's but for two, each of them near what may be at its end.
func TestDecodeOfTwoBytes(t *testing.T) {
	near := []byte{0, 1, 2, 3, 4, 5, 15, 16, 31, 32, 255}
	for _, f := range []api.Frame{base(api.Leave), base(api.Status), ends(api.Data)[0]} {
		s := plainBytes(f)
		inner := []byte(s[:len(s)-2])
		for first := range inner {
			for second := range first {
				for _, a := range near {
					for _, b := range near {
						other := slices.Clone(inner)
						other[first], other[second] = a, b
						checkDecode(t, "two others", crc.Sealed(string(other)))
					}
				}
			}
		}
	}
}

// TestDecodeOfAnyBytes takes bytes of a rule that goes on and on, made right or not.
func TestDecodeOfAnyBytes(t *testing.T) {
	state := uint32(1)
	next := func() byte {
		state = state*1664525 + 1013904223
		return byte(state >> 24)
	}
	decoded := 0
	for range 100000 {
		b := make([]byte, next()%48)
		for i := range b {
			b[i] = next() >> (next() % 8)
		}
		checkDecode(t, "any", string(b))
		s := madeRight(string(b))
		checkDecode(t, "any, made right", s)
		if _, e := Decode(s); e == api.OK {
			decoded++
		}
	}
	if decoded == 0 {
		t.Error("none was decoded")
	}
}

func checkNone(t *testing.T, name, s string) {
	t.Helper()
	if got, e := Decode(s); e == api.OK || got != (api.Frame{}) {
		t.Fatalf("%s: Decode(% x) = %v, %d", name, s, got, e)
	}
}

// TestBurstsOfAFrame takes all bursts of a Token: one whose first bits are 0 is one that begins further behind (P4.3).
func TestBurstsOfAFrame(t *testing.T) {
	s := plainBytes(base(api.Token))
	for at := range 8 * len(s) {
		for pattern := 1 << 15; pattern < 1<<16; pattern++ {
			checkNone(t, "a burst", crc.Burst(s, at, uint16(pattern)))
		}
	}
}

// patterns are bursts of one bit, of two, and of all between two; and some others.
func patterns() []uint16 {
	all := []uint16{0x8810, 0x9021, 0x1021, 0xA5A5, 0x5A5A, 0xAAAA, 0x5555, 0xE001, 0x8408}
	for first := range 16 {
		for last := range first + 1 {
			all = append(all, 1<<first|1<<last, 1<<first|(1<<first-1<<last))
		}
	}
	return all
}

// TestBurstsOfFramesOfEachKind takes chosen bursts, at every bit of frames of each kind (P4.3).
func TestBurstsOfFramesOfEachKind(t *testing.T) {
	for _, f := range rightFrames() {
		s := plainBytes(f)
		some := patterns()
		if !slices.Contains(fewFrames(), f) {
			some = []uint16{0x8000, 0x8001, 0xFFFF}
		}
		for at := -1; at <= 8*len(s); at++ {
			for _, pattern := range some {
				hurt := crc.Burst(s, at, pattern)
				if hurt != s {
					checkNone(t, "a burst", hurt)
				} else if got, e := Decode(hurt); got != f || e != api.OK {
					t.Fatalf("nothing of % x is turned: %v, %d", s, got, e)
				}
			}
		}
	}
}

// TestFramesThatAreCut cuts off all numbers of bytes (P4.3).
func TestFramesThatAreCut(t *testing.T) {
	for _, f := range rightFrames() {
		s := plainBytes(f)
		for n := range s {
			checkNone(t, "cut", s[:n])
			if _, e := Decode(s[:n]); e != api.ErrLen {
				t.Errorf("% x, cut to %d: %d", s, n, e)
			}
		}
	}
}

// TestFramesThatAreCutBehindASum takes Data whose Bytes have, within them, the sum of all that is ahead: cut behind it, their sum is right, and their length alone is not (P4.3).
func TestFramesThatAreCutBehindASum(t *testing.T) {
	for ahead := range 15 {
		for behind := range 15 - ahead {
			f := base(api.Data)
			f.Bytes = f.Bytes[:ahead+2+behind]
			s := plainBytes(f)
			sum := crc.Sum(s[:24+ahead])
			f.Bytes = put(f.Bytes, ahead, string([]byte{byte(sum >> 8), byte(sum)}))
			checkRight(t, "whole", f)
			cut := plainBytes(f)[:24+ahead+2]
			if _, ok := crc.Open(cut); !ok {
				t.Fatalf("% x isn't sealed", cut)
			}
			checkNone(t, "cut behind a sum", cut)
		}
	}
}

func TestText(t *testing.T) {
	e := api.Epoch{Count: 8, Addr: 3, Inc: 1}
	out := base(api.Status)
	out.Wants = false
	for want, f := range map[string]api.Frame{
		"token 3 > 5 8.3.1/4":                    {Kind: api.Token, Src: 3, SrcInc: 1, Dst: 5, DstInc: 7, Epoch: e, Hop: 4},
		"poll 3 > 5 8.3.1/4":                     {Kind: api.Poll, Src: 3, SrcInc: 1, Dst: 5, DstInc: 7, Epoch: e, Hop: 4},
		"leave 3 > 5 8.3.1/4":                    {Kind: api.Leave, Src: 3, SrcInc: 1, Dst: 5, DstInc: 7, Epoch: e, Hop: 4},
		"status 3 > 5 8.3.1/4 high 0.0.0 out":    {Kind: api.Status, Src: 3, SrcInc: 1, Dst: 5, DstInc: 7, Epoch: e, Hop: 4},
		"status 3 > 5 8.3.1/4 high 8.3.1 in":     {Kind: api.Status, Src: 3, SrcInc: 1, Dst: 5, DstInc: 7, Epoch: e, Hop: 4, High: e, Wants: true},
		"data 3 > * 8.3.1/4 block 7 1.2 1 of 1":  {Kind: api.Data, Src: 3, SrcInc: 1, Epoch: e, Hop: 4, Block: 7, Version: api.Version{Inc: 1, Seq: 2}, Parts: 1, Bytes: "\x00\xff"},
		"data 3 > * 8.3.1/4 block 15 1.2 3 of 4": {Kind: api.Data, Src: 3, SrcInc: 1, Epoch: e, Hop: 4, Block: 15, Version: api.Version{Inc: 1, Seq: 2}, Part: 2, Parts: 4, Bytes: "x"},

		"token 1 > 4 4370.19.5141/5655":                                     base(api.Token),
		"poll 1 > 4 4370.19.5141/5655":                                      base(api.Poll),
		"status 1 > 4 4370.19.5141/5655 high 8482.30.9253 in":               base(api.Status),
		"status 1 > 4 4370.19.5141/5655 high 8482.30.9253 out":              out,
		"data 1 > * 4370.19.5141/5655 block 7 12594.859059510 3 of 4":       base(api.Data),
		"leave 1 > 4 4370.19.5141/5655":                                     base(api.Leave),
		"token 0 > 0 0.0.0/0":                                               ends(api.Token)[0],
		"token 31 > 31 65535.31.65535/65535":                                ends(api.Token)[1],
		"poll 0 > 0 0.0.0/0":                                                ends(api.Poll)[0],
		"poll 31 > 31 65535.31.65535/65535":                                 ends(api.Poll)[1],
		"status 0 > 0 0.0.0/0 high 0.0.0 out":                               ends(api.Status)[0],
		"status 31 > 31 65535.31.65535/65535 high 65535.31.65535 in":        ends(api.Status)[1],
		"data 0 > * 0.0.0/0 block 0 0.0 1 of 1":                             ends(api.Data)[0],
		"data 31 > * 65535.31.65535/65535 block 15 65535.4294967295 4 of 4": ends(api.Data)[1],
		"leave 0 > 0 0.0.0/0":                                               ends(api.Leave)[0],
		"leave 31 > 31 65535.31.65535/65535":                                ends(api.Leave)[1],
	} {
		if got := Text(f); got != want {
			t.Errorf("Text(%v) = %q, want %q", f, got, want)
		}
	}
}

// everything is a frame with all that frames may have, and with the greatest numbers that there are, of that kind.
func everything(kind int) api.Frame {
	e := api.Epoch{Count: 65535, Addr: 255, Inc: 65535}
	return api.Frame{
		Kind: kind, Src: 255, Dst: 254, SrcInc: 65535, DstInc: 65535, Epoch: e, Hop: 65535, High: e, Wants: true,
		Block: 255, Version: api.Version{Inc: 65535, Seq: math.MaxUint32}, Part: 255, Parts: 253, Bytes: strings.Repeat("z", 1000),
	}
}

func TestTextOfFramesThatMayNotBe(t *testing.T) {
	const behind = " 255 > 254 65535.255.65535/65535"
	for kind, want := range map[int]string{
		api.Token:  "token" + behind,
		api.Poll:   "poll" + behind,
		api.Status: "status" + behind + " high 65535.255.65535 in",
		api.Data:   "data 255 > * 65535.255.65535/65535 block 255 65535.4294967295 256 of 253",
		api.Leave:  "leave" + behind,
	} {
		f := everything(kind)
		checkWrong(t, "everything", f)
		if got := Text(f); got != want {
			t.Errorf("kind %d: %q, want %q", kind, got, want)
		}
	}
	empty := api.Frame{Kind: api.Data, Dst: 9, DstInc: 9}
	if got, want := Text(empty), "data 0 > * 0.0.0/0 block 0 0.0 1 of 0"; got != want {
		t.Errorf("%q, want %q", got, want)
	}
	for _, kind := range noKinds() {
		if got, want := Text(everything(kind)), "?"+behind; got != want {
			t.Errorf("kind %d: %q, want %q", kind, got, want)
		}
		if got, want := Text(api.Frame{Kind: kind}), "? 0 > 0 0.0.0/0"; got != want {
			t.Errorf("kind %d: %q, want %q", kind, got, want)
		}
	}
}

// TestEveryCallEnds hands in what lies at the ends of each kind and beside them (P0).
func TestEveryCallEnds(t *testing.T) {
	for _, kind := range slices.Concat(kinds(), noKinds()) {
		f := everything(kind)
		f.Bytes = strings.Repeat("\xa5", 1<<20)
		if s, e := Encode(f); Right(f) || Size(f) != 0 || s != "" || e != api.ErrForm || Text(f) == "" {
			t.Errorf("kind %d: % x, %d", kind, s, e)
		}
	}
	for _, n := range []int{0, 1, 2, 3, 16, 17, 255, 256, 1 << 20} {
		for b := range 256 {
			s := strings.Repeat(string([]byte{byte(b)}), n)
			for _, text := range []string{s, crc.Sealed(s), madeRight(s)} {
				if f, e := Decode(text); e == api.OK != Right(f) {
					t.Errorf("%d times %02x: %v, %d", n, b, f, e)
				}
			}
			if n == 1<<20 && b > 8 {
				break
			}
		}
	}
}
